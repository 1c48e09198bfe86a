package queries

import (
	"iter"
	"slices"

	"spillway/api"
	"spillway/order"
	"spillway/sorts"
)

// joined goes through both sides in the order of the columns by which they are
// joined. Right's rows are kept where one can go back, as all those of a key
// come again for each of Left's rows of that key. A Join has no use for Left's
// rows with Nulls, so it does not sort them.
func (q *query) joined(n api.Node, left iter.Seq[api.Row], right result) iter.Seq[api.Row] {
	if n.Op == api.Join {
		left = withoutNulls(left, n.Cols)
	}
	return func(yield func(api.Row) bool) {
		sorter := sorts.New(q.config, q.disk, byColumns(n.Others), api.MaxRows)
		defer sorter.Close()
		for row := range withoutNulls(right.rows, n.Others) {
			sorter.Add(row)
		}
		at := mark{pass: sorter.EndInOne()}
		at.advance()
		for row := range q.sorted(left, byColumns(n.Cols), api.MaxRows) {
			at.advanceTo(n, row)
			if !joinRow(n, row, at, right.cols, yield) {
				return
			}
		}
	}
}

// withoutNulls leaves out rows with a Null in one of the columns: these are
// the same as no others.
func withoutNulls(rows iter.Seq[api.Row], cols []int) iter.Seq[api.Row] {
	return func(yield func(api.Row) bool) {
		for row := range rows {
			isNull := func(col int) bool { return row[col].Kind == api.Null }
			if !slices.ContainsFunc(cols, isNull) && !yield(row) {
				return
			}
		}
	}
}

// joinRow gives a row of Left with each row of Right that has the same values,
// which begin at the mark. That is a copy: the mark itself stays there.
func joinRow(n api.Node, left api.Row, at mark, cols int, yield func(api.Row) bool) bool {
	if n.Op == api.Outer && !at.matches(n, left) {
		return yield(slices.Concat(left, make(api.Row, cols)))
	}
	for at.matches(n, left) {
		if !yield(slices.Concat(left, at.row)) {
			return false
		}
		at.advance()
	}
	return true
}

// mark is a place among Right's rows: the row there, if there is one, and the
// way through those behind it. A copy of it stays where it is.
type mark struct {
	pass sorts.Pass
	row  api.Row
	ok   bool
}

func (m *mark) advance() { m.row, m.ok = m.pass.Next() }

// advanceTo leaves out the rows that are ahead of all that a row of Left, or
// one behind it, could be joined with.
func (m *mark) advanceTo(n api.Node, left api.Row) {
	for m.ok && compareSides(n, left, m.row) > 0 {
		m.advance()
	}
}

func (m *mark) matches(n api.Node, left api.Row) bool {
	return m.ok && compareSides(n, left, m.row) == 0
}

// compareSides holds a row of Left against one of Right, which has no Null
// there: so a Null of Left's is ahead of it, and never the same.
func compareSides(n api.Node, left, right api.Row) int {
	for i, col := range n.Cols {
		if way := order.CompareValues(left[col], right[n.Others[i]], api.Key{}); way != 0 {
			return way
		}
	}
	return 0
}
