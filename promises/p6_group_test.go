package promises

import (
	"fmt"
	"math"
	"math/rand"
	"slices"
	"testing"

	"spillway/api"
)

func sum(op, col int) api.Sum { return api.Sum{Op: op, Col: col} }

// tableT is a table "t"; its columns' kinds are those of the values there.
func tableT(rows ...api.Row) []api.Table {
	kinds := make([]int, len(rows[0]))
	for _, r := range rows {
		for col, v := range r {
			kinds[col] = max(kinds[col], v.Kind)
		}
	}
	return []api.Table{{Name: "t", Kinds: kinds, Rows: rows}}
}

func TestDistinctExamples(t *testing.T) {
	plan := []api.Node{scan("t"), distinct(0)}
	rows := tableT(row(2, true), row(nil, false), row(2, false), row(2, true), row(nil, false), row(nil, nil), row(-1, true))
	wantRows(t, "pairs", rows, plan, row(nil, nil), row(nil, false), row(-1, true), row(2, false), row(2, true))
	wantRows(t, "the document's table", documentTables(), plan, row(nil, "c"), row(1, "a"), row(2, "a"), row(2, "b"))
	wantRows(t, "one row", tableT(row("x")), plan, row("x"))
	wantRows(t, "alike rows", tableT(slices.Repeat([]api.Row{row("x", 0)}, 100)...), plan, row("x", 0))
	wantRows(t, "texts that begin alike", tableT(row("ab"), row("a"), row(""), row("b"), row("a\x00"), row(nil), row("a"), row("")), plan, row(nil), row(""), row("a"), row("a\x00"), row("ab"), row("b"))
	wantRows(t, "Null is no 0", tableT(row(0), row(nil), row(0), row(nil), row(1)), plan, row(nil), row(0), row(1))
	wantRows(t, "Null is no empty text", tableT(row(""), row(nil), row("x"), row(""), row(nil)), plan, row(nil), row(""), row("x"))
	wantRows(t, "Null is no false", tableT(row(false), row(nil), row(true), row(false)), plan, row(nil), row(false), row(true))
	wantRows(t, "all Nulls", []api.Table{{Name: "t", Kinds: []int{1, 2}, Rows: slices.Repeat([]api.Row{row(nil, nil)}, 30)}}, plan, row(nil, nil))
	wantRows(t, "no rows", []api.Table{{Name: "t", Kinds: []int{1, 2}}}, plan)
	wantRows(t, "distinct of distinct", documentTables(), append(plan, distinct(1)), row(nil, "c"), row(1, "a"), row(2, "a"), row(2, "b"))
	wantRows(t, "a sort of distinct", documentTables(), append(plan, sort(1, api.Key{Col: 1, Down: true})), row(nil, "c"), row(2, "b"), row(1, "a"), row(2, "a"))
}

// TestDistinctOfAllColumns: more columns than a Sort may have keys; rows differ
// in one of them alone.
func TestDistinctOfAllColumns(t *testing.T) {
	var rows []api.Row
	for col := range api.MaxCols {
		r := make(api.Row, api.MaxCols)
		for i := range r {
			r[i] = value(7)
		}
		r[col] = value(8)
		rows = append(rows, r)
	}
	table := []api.Table{{Name: "t", Kinds: ints(api.MaxCols), Rows: slices.Concat(rows, rows, rows)}}
	slices.Reverse(rows)
	for _, c := range []api.Config{least(132), {Block: 4096, Fan: 2, Budget: 1 << 20}} {
		if got, e := ask(t, "twelve columns", table, []api.Node{scan("t"), distinct(0)}, c, bigDisk()); e != api.OK || !sameRows(got, rows) {
			t.Errorf("P6: %v, %d", got, e)
		}
	}
}

func TestGroupExamples(t *testing.T) {
	by := func(cols []int, sums ...api.Sum) []api.Node { return []api.Node{scan("t"), group(0, cols, sums...)} }
	count, least0, greatest0, total0 := sum(api.Count, 0), sum(api.Least, 0), sum(api.Greatest, 0), sum(api.Total, 0)
	for _, x := range []struct {
		why  string
		plan []api.Node
		rows []api.Row
	}{
		{"the document's", by([]int{0}, count, sum(api.Greatest, 1)), []api.Row{row(nil, 1, "c"), row(1, 1, "a"), row(2, 2, "b")}},
		{"the document's, by nothing", by(nil, total0), []api.Row{row(5)}},
		{"without sums", by([]int{1, 0}), []api.Row{row("a", 1), row("a", 2), row("b", 2), row("c", nil)}},
		{"one column without sums", by([]int{0}), []api.Row{row(nil), row(1), row(2)}},
		{"the same column again", by([]int{1, 1}, count), []api.Row{row("a", "a", 2), row("b", "b", 1), row("c", "c", 1)}},
		{"each sum", by([]int{1}, count, least0, greatest0, total0), []api.Row{row("a", 2, 1, 2, 3), row("b", 1, 2, 2, 2), row("c", 1, nil, nil, nil)}},
		{"each sum, by nothing", by(nil, total0, greatest0, least0, count), []api.Row{row(5, 2, 1, 4)}},
		{"the same sum again", by([]int{0}, count, count, total0, total0), []api.Row{row(nil, 1, 1, nil, nil), row(1, 1, 1, 1, 1), row(2, 2, 2, 4, 4)}},
		{"sums of the column itself", by([]int{0}, least0, greatest0), []api.Row{row(nil, nil, nil), row(1, 1, 1), row(2, 2, 2)}},
		{"texts", by(nil, sum(api.Least, 1), sum(api.Greatest, 1)), []api.Row{row("a", "c")}},
		{"a group of a group", append(by([]int{0}, count), group(1, []int{1}, count, total0)), []api.Row{row(1, 2, 1), row(2, 1, 2)}},
		{"a group of a sort", append([]api.Node{scan("t"), sort(0, api.Key{Col: 1, Down: true})}, group(1, []int{0}, sum(api.Least, 1))), []api.Row{row(nil, "c"), row(1, "a"), row(2, "a")}},
		{"a group of a top of 0, by nothing", append([]api.Node{scan("t"), top(0, 0, api.Key{})}, group(1, nil, count, total0)), []api.Row{row(0, nil)}},
		{"a group of a top of 0, by a column", append([]api.Node{scan("t"), top(0, 0, api.Key{})}, group(1, []int{0}, count)), nil},
	} {
		for _, c := range []api.Config{least(69), {Block: 69, Fan: 16, Budget: 300}, least(100), {Block: 4096, Fan: 16, Budget: 1 << 20}} {
			if got, e := ask(t, x.why, documentTables(), x.plan, c, bigDisk()); e != api.OK || !sameRows(got, x.rows) {
				t.Errorf("P6: %s: %v, %d, want %v (%+v)", x.why, got, e, x.rows, c)
			}
		}
	}
}

func TestGroupOfNoRows(t *testing.T) {
	none := []api.Table{{Name: "t", Kinds: []int{api.Int, api.Text, api.Flag}}}
	all := []api.Sum{{Op: api.Count}, sum(api.Total, 0), sum(api.Least, 1), sum(api.Greatest, 2)}
	wantRows(t, "by nothing", none, []api.Node{scan("t"), group(0, nil, all...)}, row(0, nil, nil, nil))
	wantRows(t, "by nothing, with empty lists", none, emptied([]api.Node{scan("t"), group(0, nil, all...)}), row(0, nil, nil, nil))
	wantRows(t, "by a column", none, []api.Node{scan("t"), group(0, []int{1}, all[:2]...)})
	wantRows(t, "by all columns, without sums", none, []api.Node{scan("t"), group(0, []int{0, 1, 2})})
}

func TestGroupOfNulls(t *testing.T) {
	rows := tableT(row(nil, 3, true), row(nil, nil, false), row(0, nil, nil), row(nil, -3, true), row(0, nil, nil), row(nil, 0, nil))
	plan := []api.Node{scan("t"), group(0, []int{0}, api.Sum{Op: api.Count}, sum(api.Total, 1), sum(api.Least, 2))}
	wantRows(t, "Nulls are alike, and count, and are no values", rows, plan, row(nil, 4, 0, false), row(0, 2, nil, nil))
	plan = []api.Node{scan("t"), group(0, []int{0, 2}, api.Sum{Op: api.Count}, sum(api.Greatest, 1))}
	wantRows(t, "by two columns", rows, plan, row(nil, nil, 1, 0), row(nil, false, 1, nil), row(nil, true, 2, 3), row(0, nil, 2, nil))
	null := []api.Table{{Name: "t", Kinds: []int{1, 2}, Rows: slices.Repeat([]api.Row{row(nil, nil)}, 50)}}
	plan = []api.Node{scan("t"), group(0, nil, api.Sum{Op: api.Count}, sum(api.Total, 0), sum(api.Least, 1), sum(api.Greatest, 0))}
	wantRows(t, "nothing but Nulls", null, plan, row(50, nil, nil, nil))
}

// TestTotals: just an int, and just none; what lies between does not matter.
func TestTotals(t *testing.T) {
	const most, low = math.MaxInt, math.MinInt
	for _, x := range []struct {
		values []any
		want   any // nil: an overflow
	}{
		{[]any{most}, most}, {[]any{low}, low}, {[]any{most, nil, 0}, most}, {[]any{low, 0, nil}, low},
		{[]any{most - 1, 1}, most}, {[]any{most, 1}, nil}, {[]any{1, most}, nil}, {[]any{most, 1, -1}, most}, {[]any{most, 1, nil, -1, -1}, most - 1},
		{[]any{low + 1, -1}, low}, {[]any{low, -1}, nil}, {[]any{-1, low}, nil}, {[]any{low, -1, 1}, low}, {[]any{low, -1, 2}, low + 1},
		{[]any{low, low}, nil}, {[]any{most, most, 2}, nil}, {[]any{most, most, low, low, 2}, 0}, {[]any{most, low}, -1}, {[]any{low, most, -1}, -2},
		{[]any{most, most, low}, most - 1}, {[]any{low, low, most}, nil}, {[]any{low, low, most, 1}, low}, {[]any{most, most, most, low, low, low}, -3},
		{[]any{1 << 62, 1 << 62}, nil}, {[]any{1 << 62, 1<<62 - 1}, most}, {[]any{-1 << 62, -1 << 62}, low}, {[]any{-1 << 62, -1 << 62, -1}, nil},
	} {
		var rows []api.Row
		for _, v := range x.values {
			rows = append(rows, row(v))
		}
		plan := []api.Node{scan("t"), group(0, nil, sum(api.Total, 0))}
		if x.want != nil {
			wantRows(t, fmt.Sprint("the total of ", x.values), tableT(rows...), plan, row(x.want))
			continue
		}
		for _, c := range configs() {
			wantErrnoOf(t, fmt.Sprint("the total of ", x.values), tableT(rows...), plan, c, api.ErrOverflow)
		}
	}
}

// TestTotalsOfParts: each part has its own, and one overflow is enough.
func TestTotalsOfParts(t *testing.T) {
	total := []api.Node{scan("t"), group(0, []int{0}, api.Sum{Op: api.Count}, sum(api.Total, 1))}
	const most = math.MaxInt
	good := []api.Row{row(3, most), row(1, most), row(2, most), row(nil, most), row(3, nil)}
	wantRows(t, "four parts", tableT(good...), total, row(nil, 1, most), row(1, 1, most), row(2, 1, most), row(3, 2, most))
	for _, more := range []any{nil, 1, 2, 3} {
		rows := tableT(append(slices.Clone(good), row(more, 1))...)
		for _, c := range configs() {
			wantErrnoOf(t, fmt.Sprint("an overflow in part ", more), rows, total, c, api.ErrOverflow)
			wantErrnoOf(t, "no total is asked for", rows, []api.Node{scan("t"), group(0, []int{0}, sum(api.Greatest, 1))}, c, api.OK)
			wantErrnoOf(t, "no row is asked for", rows, append(slices.Clone(total), top(1, 0, api.Key{})), c, api.ErrOverflow)
		}
	}
	rows := slices.Repeat([]api.Row{row(1, most), row(1, math.MinInt), row(nil, 1), row(2, most)}, api.MaxRows/4)
	wantErrnoOf(t, "as many rows as may be", tableT(rows...), total, least(64), api.ErrOverflow)
	rows = slices.Repeat([]api.Row{row(1, most), row(1, math.MinInt), row(nil, 1), row(2, 1)}, api.MaxRows/4)
	got, e := ask(t, "as many rows as may be", tableT(rows...), total, least(64), bigDisk())
	if e != api.OK || !sameRows(got, []api.Row{row(nil, 5000, 5000), row(1, 10000, -5000), row(2, 5000, 5000)}) {
		t.Errorf("P6: totals of 20000 rows: %v, %d", got, e)
	}
}

// TestGroupAndDistinctOfManyRows: as many parts as rows, one part, some parts.
func TestGroupAndDistinctOfManyRows(t *testing.T) {
	r := rand.New(rand.NewSource(21))
	for _, parts := range []int{1, 7, 300, 5000} {
		table := api.Table{Name: "t", Kinds: []int{api.Int, api.Int}}
		for i := range 1500 {
			table.Rows = append(table.Rows, row(i*7919%parts, r.Intn(5)))
		}
		for _, c := range configs() {
			why := fmt.Sprint(parts, " parts")
			wantModel(t, why, []api.Table{table}, []api.Node{scan("t"), distinct(0)}, c)
			wantModel(t, why, []api.Table{table}, []api.Node{scan("t"), group(0, []int{0}, sum(api.Total, 1), sum(api.Count, 0))}, c)
			wantModel(t, why, []api.Table{table}, []api.Node{scan("t"), group(0, []int{1, 0}), group(1, []int{1}, sum(api.Least, 0)), distinct(2)}, c)
		}
	}
	all := []api.Table{{Name: "t", Kinds: []int{api.Int}}}
	for i := range api.MaxRows {
		all[0].Rows = append(all[0].Rows, row(-i))
	}
	for _, plan := range [][]api.Node{{scan("t"), distinct(0)}, {scan("t"), group(0, []int{0})}} {
		if got, e := ask(t, "20000 parts", all, plan, least(64), bigDisk()); e != api.OK || len(got) != api.MaxRows || got[0][0] != value(1-api.MaxRows) {
			t.Errorf("P6: 20000 parts: %d rows, %d", len(got), e)
		}
	}
}
