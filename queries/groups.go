package queries

import (
	"iter"
	"slices"

	"spillway/api"
	"spillway/groups"
)

// distinct has rows that are alike side by side, and gives the first of them.
func (q *query) distinct(left result) iter.Seq[api.Row] {
	keys := make([]api.Key, left.cols)
	for col := range keys {
		keys[col].Col = col
	}
	return func(yield func(api.Row) bool) {
		var last api.Row
		for row := range q.sorted(left.rows, keys, api.MaxRows) {
			if last != nil && slices.Equal(row, last) {
				continue
			}
			last = row
			if !yield(row) {
				return
			}
		}
	}
}

// grouped has each part's rows side by side; one part alone, of all rows, needs
// no sorting, and is there without any row.
func (q *query) grouped(n api.Node, left iter.Seq[api.Row]) iter.Seq[api.Row] {
	if len(n.Cols) > 0 {
		left = q.sorted(left, byColumns(n.Cols), api.MaxRows)
	}
	return func(yield func(api.Row) bool) {
		var part *groups.Part
		if len(n.Cols) == 0 {
			part = groups.New(n.Cols, n.Sums, nil)
		}
		for row := range left {
			if part != nil && !part.Has(row) {
				if !yield(part.Row()) {
					return
				}
				part = nil
			}
			if part == nil {
				part = groups.New(n.Cols, n.Sums, row)
			}
			part.Add(row)
		}
		if part != nil {
			yield(part.Row())
		}
	}
}
