package promises

import (
	"fmt"
	"math"
	"math/rand"
	"slices"
	"strings"
	"testing"

	"spillway/api"
	"spillway/disk"
)

// documentTables has the table t of the document's examples.
func documentTables() []api.Table {
	return []api.Table{{Name: "t", Kinds: []int{api.Int, api.Text}, Rows: []api.Row{row(2, "b"), row(1, "a"), row(nil, "c"), row(2, "a")}}}
}

func wantRows(t *testing.T, why string, tables []api.Table, plan []api.Node, rows ...api.Row) {
	t.Helper()
	for _, c := range configs() {
		if got, e := ask(t, why, tables, plan, c, bigDisk()); e != api.OK || !sameRows(got, rows) {
			t.Errorf("P6: %s: %v, %d, want %v (%+v)", why, got, e, rows, c)
		}
	}
}

func TestQueryExamples(t *testing.T) {
	b, a, c, d := row(2, "b"), row(1, "a"), row(nil, "c"), row(2, "a")
	for _, x := range []struct {
		why  string
		plan []api.Node
		rows []api.Row
	}{
		{"a scan", []api.Node{scan("t")}, []api.Row{b, a, c, d}},
		{"a sort", []api.Node{scan("t"), sort(0, api.Key{})}, []api.Row{c, a, b, d}},
		{"down and last", []api.Node{scan("t"), sort(0, api.Key{Down: true, Last: true})}, []api.Row{b, d, a, c}},
		{"down", []api.Node{scan("t"), sort(0, api.Key{Down: true})}, []api.Row{c, b, d, a}},
		{"last", []api.Node{scan("t"), sort(0, api.Key{Last: true})}, []api.Row{a, b, d, c}},
		{"by a text", []api.Node{scan("t"), sort(0, api.Key{Col: 1})}, []api.Row{a, d, b, c}},
		{"by a text down", []api.Node{scan("t"), sort(0, api.Key{Col: 1, Down: true})}, []api.Row{c, b, a, d}},
		{"by two keys", []api.Node{scan("t"), sort(0, api.Key{Down: true}, api.Key{Col: 1})}, []api.Row{c, d, b, a}},
		{"the same key again, turned round", []api.Node{scan("t"), sort(0, api.Key{}, api.Key{Down: true})}, []api.Row{c, a, b, d}},
		{"a sort of a sort", []api.Node{scan("t"), sort(0, api.Key{Col: 1, Down: true}), sort(1, api.Key{Last: true})}, []api.Row{a, b, d, c}},
		{"a top of 0", []api.Node{scan("t"), top(0, 0, api.Key{})}, nil},
		{"a top of 1", []api.Node{scan("t"), top(0, 1, api.Key{})}, []api.Row{c}},
		{"a top of 3, with one of two that are alike", []api.Node{scan("t"), top(0, 3, api.Key{})}, []api.Row{c, a, b}},
		{"a top of as many as there are", []api.Node{scan("t"), top(0, 4, api.Key{})}, []api.Row{c, a, b, d}},
		{"a top of more than there are", []api.Node{scan("t"), top(0, 5, api.Key{})}, []api.Row{c, a, b, d}},
		{"the largest top", []api.Node{scan("t"), top(0, api.MaxTop, api.Key{})}, []api.Row{c, a, b, d}},
		{"a top of a sort", []api.Node{scan("t"), sort(0, api.Key{Col: 1}), top(1, 3, api.Key{Down: true, Last: true})}, []api.Row{d, b, a}},
		{"a sort of a top", []api.Node{scan("t"), top(0, 2, api.Key{}), sort(1, api.Key{Down: true, Last: true})}, []api.Row{a, c}},
		{"a sort of a top of 0", []api.Node{scan("t"), top(0, 0, api.Key{}), sort(1, api.Key{})}, nil},
	} {
		wantRows(t, x.why, documentTables(), x.plan, x.rows...)
	}
}

func TestQueryOfNoRows(t *testing.T) {
	for _, rows := range [][]api.Row{nil, {}} {
		tables := []api.Table{{Name: "", Kinds: []int{api.Text}, Rows: rows}}
		wantRows(t, "a scan of no rows", tables, []api.Node{scan("")})
		wantRows(t, "a sort of no rows", tables, []api.Node{scan(""), sort(0, api.Key{})})
		wantRows(t, "a top of no rows", tables, []api.Node{scan(""), top(0, 9, api.Key{})})
	}
}

func TestQueryScansTheNamedTable(t *testing.T) {
	tables := []api.Table{
		{Name: "a", Kinds: []int{api.Int}, Rows: []api.Row{row(1)}},
		{Name: "", Kinds: []int{api.Int}, Rows: []api.Row{row(2)}},
		{Name: "b", Kinds: []int{api.Int}, Rows: []api.Row{row(3)}},
	}
	wantRows(t, "the first table", tables, []api.Node{scan("a")}, row(1))
	wantRows(t, "the empty name", tables, []api.Node{scan("")}, row(2))
	wantRows(t, "the last table", tables, []api.Node{scan("b")}, row(3))
}

// TestQueryKeepsValues: what is read back from the disk is what was written.
func TestQueryKeepsValues(t *testing.T) {
	for kind, values := range valuesOfKinds() {
		if kind == api.Null {
			continue
		}
		table := api.Table{Name: "t", Kinds: []int{kind, api.Int}}
		for i, v := range values {
			table.Rows = append(table.Rows, api.Row{v, value(i)})
		}
		for _, c := range []api.Config{least(256), {Block: 512, Fan: 4, Budget: 4096}} {
			for _, key := range allKeys(0) {
				wantModel(t, fmt.Sprint("kind ", kind), []api.Table{table}, []api.Node{scan("t"), sort(0, key)}, c)
			}
			wantModel(t, "back to front", []api.Table{table}, []api.Node{scan("t"), sort(0, api.Key{Col: 1, Down: true})}, c)
		}
	}
}

func TestQueryConfigs(t *testing.T) {
	plan := []api.Node{scan("t"), sort(0, api.Key{})}
	tables := []api.Table{{Name: "t", Kinds: []int{api.Int}, Rows: slices.Repeat([]api.Row{row(1)}, 100)}}
	for _, n := range append(edgeInts(), 14, 15, 16, 17, 62, 63, 64, 65, 4095, 4096, 4097) {
		blockGood, fanGood := n >= 64 && n <= 4096, n >= 2 && n <= 16
		for _, c := range []struct {
			c    api.Config
			good bool
		}{
			{api.Config{Block: n, Fan: 2, Budget: math.MaxInt}, blockGood},
			{api.Config{Block: 64, Fan: n, Budget: 256}, fanGood},
			{api.Config{Block: 64, Fan: n, Budget: 0}, fanGood},
			{api.Config{Block: n, Fan: 2, Budget: 0}, blockGood},
		} {
			want := api.ErrPlan
			switch {
			case c.good && c.c.Budget == 0:
				want = api.ErrBudget
			case c.good:
				want = api.OK
			}
			wantErrnoOf(t, "a configuration", tables, plan, c.c, want)
		}
	}
	for _, block := range []int{64, 65, 1000, 4096} {
		for _, budget := range append(edgeInts(), 4*block-1, 4*block, 4*block+1) {
			want := api.OK
			if budget < 4*block {
				want = api.ErrBudget
			}
			wantErrnoOf(t, "a budget", tables, plan, api.Config{Block: block, Fan: 2, Budget: budget}, want)
		}
	}
}

func TestQueryNeedsLargeBlocks(t *testing.T) {
	plan := []api.Node{scan("t"), sort(0, api.Key{})}
	for _, c := range configs() {
		for block, want := range map[int]api.Errno{0: api.ErrBudget, c.Block - 1: api.ErrBudget, c.Block: api.OK, c.Block + 1: api.OK, math.MaxInt: api.OK} {
			if _, e := ask(t, "a disk", documentTables(), plan, c, disk.New(block, 1000)); e != want {
				t.Errorf("P6: a disk of blocks of %d bytes: %d, want %d (%+v)", block, e, want, c)
			}
		}
	}
}

// TestQueryErrorsInOrder: where several apply the first one named comes, and
// with the first two nothing is written.
func TestQueryErrorsInOrder(t *testing.T) {
	many := []api.Table{{Name: "t", Kinds: []int{api.Text}, Rows: slices.Repeat([]api.Row{row(strings.Repeat("x", 99))}, api.MaxRows+1)}}
	large := []api.Table{{Name: "t", Kinds: []int{api.Text}, Rows: many[0].Rows[:api.MaxRows]}}
	good, noBudget, noFan := least(64), api.Config{Block: 64, Fan: 2, Budget: 255}, api.Config{Block: 64, Fan: 1, Budget: 255}
	valid, invalid := []api.Node{scan("t"), sort(0, api.Key{})}, []api.Node{scan("t"), sort(0, api.Key{Col: 1})}
	for _, x := range []struct {
		why    string
		tables []api.Table
		plan   []api.Node
		c      api.Config
		blocks int
		want   api.Errno
	}{
		{"all at one time", many, invalid, noFan, 1, api.ErrPlan},
		{"no valid plan, and no budget", many, invalid, noBudget, 1, api.ErrPlan},
		{"no fan, and no budget", many, valid, noFan, 1, api.ErrPlan},
		{"no budget, and too many rows", many, valid, noBudget, 64, api.ErrBudget},
		{"small blocks, and too many rows", many, valid, good, 63, api.ErrBudget},
		{"too many rows, which are too large", many, valid, good, 64, api.ErrMany},
		{"too large rows", large, valid, good, 64, api.ErrRow},
		{"no plan", large, nil, good, 64, api.ErrPlan},
		{"no tables", nil, valid, good, 64, api.ErrPlan},
		{"neither", nil, nil, api.Config{}, 64, api.ErrPlan},
	} {
		d := disk.New(x.blocks, 1000)
		if _, e := ask(t, x.why, x.tables, x.plan, x.c, d); e != x.want {
			t.Errorf("P6: %s: %d, want %d", x.why, e, x.want)
		}
		if d.Wrote() != 0 {
			t.Errorf("P6: %s: %d blocks were written", x.why, d.Wrote())
		}
	}
}

func TestQueryHowManyRows(t *testing.T) {
	r := rand.New(rand.NewSource(7))
	small := api.Config{Block: 4096, Fan: 16, Budget: 1 << 16}
	for _, n := range []int{api.MaxRows - 1, api.MaxRows, api.MaxRows + 1, 2 * api.MaxRows} {
		tables := []api.Table{tableOf(r, []int{api.Int, api.Flag}, n, 40)}
		for _, plan := range [][]api.Node{{scan("t")}, {scan("t"), sort(0, api.Key{Down: true})}, {scan("t"), top(0, 9, api.Key{})}, {scan("t"), top(0, 0, api.Key{})}} {
			for _, c := range []api.Config{least(64), small} {
				wantModel(t, fmt.Sprint(n, " rows"), tables, plan, c)
			}
		}
	}
	others := append(documentTables(), api.Table{Name: "u", Kinds: []int{api.Int}, Rows: slices.Repeat([]api.Row{row(1)}, api.MaxRows+1)})
	wantErrnoOf(t, "too many rows in a table that is not asked", others, []api.Node{scan("t")}, small, api.OK)
}

func TestQueryHowLargeRows(t *testing.T) {
	text := func(n int) string { return strings.Repeat("x", n) }
	for _, x := range []struct {
		r    api.Row
		size int
	}{
		{row(text(37)), 48}, {row(text(38)), 49}, {row(text(39)), 50}, {row(nil, text(200)), 212},
		{row(1, 2, 3, 4), 44}, {row(1, 2, 3, 4, nil), 45}, {row(1, 2, 3, 4, true, false), 48}, {row(1, 2, 3, 4, true, false, nil), 49},
		{row(1, 2, 3, 4, nil, nil, nil, nil, nil), 49}, {row("", "", "", 1, true, nil), 29},
		{row(text(200), text(200), text(200), text(200)), 820},
	} {
		kinds := make([]int, len(x.r))
		for i, v := range x.r {
			kinds[i] = max(v.Kind, api.Int)
		}
		nulls := make(api.Row, len(kinds))
		for _, rows := range [][]api.Row{{x.r}, {nulls, x.r}, {x.r, nulls}, {nulls, x.r, nulls, nulls}} {
			tables := []api.Table{{Name: "t", Kinds: kinds, Rows: rows}}
			for _, plan := range [][]api.Node{{scan("t")}, {scan("t"), sort(0, api.Key{Down: true})}, {scan("t"), top(0, 0, api.Key{})}, {scan("t"), top(0, 1, api.Key{}), sort(1, api.Key{})}} {
				for block := max(64, x.size+13); block < max(64, x.size+20); block++ {
					want := api.OK
					if x.size > block-16 {
						want = api.ErrRow
					}
					wantErrnoOf(t, fmt.Sprint("a row of ", x.size), tables, plan, least(block), want)
				}
			}
		}
	}
	others := append(documentTables(), api.Table{Name: "u", Kinds: []int{api.Text}, Rows: []api.Row{row(text(99))}})
	wantErrnoOf(t, "a large row in a table that is not asked", others, []api.Node{scan("t")}, least(64), api.OK)
}

// TestQueryManyRuns: more rows than fit into the budget, in orders of which
// some make as many runs as can be, some one alone.
func TestQueryManyRuns(t *testing.T) {
	r := rand.New(rand.NewSource(8))
	orders := map[string]func(i int) int{
		"as they must be":  func(i int) int { return i },
		"back to front":    func(i int) int { return -i },
		"all alike":        func(int) int { return 0 },
		"up and down":      func(i int) int { return i % 37 * (1 - i%2*2) },
		"in two halves":    func(i int) int { return i % 500 },
		"without an order": func(int) int { return r.Intn(1000) },
	}
	for why, at := range orders {
		table := api.Table{Name: "t", Kinds: []int{api.Int, api.Int}}
		for i := range 1000 {
			table.Rows = append(table.Rows, row(at(i), i))
		}
		for _, c := range configs() {
			for _, key := range []api.Key{{}, {Down: true}} {
				wantModel(t, why, []api.Table{table}, []api.Node{scan("t"), sort(0, key)}, c)
				wantModel(t, why, []api.Table{table}, []api.Node{scan("t"), top(0, 700, key)}, c)
				wantModel(t, why, []api.Table{table}, []api.Node{scan("t"), sort(0, api.Key{Col: 1, Down: true}), top(1, 1, key)}, c)
			}
		}
	}
}

// TestQueryRoomForNarrowRuns: keys whose texts are much longer than the rows,
// and rows that leave nearly half of each block empty.
func TestQueryRoomForNarrowRuns(t *testing.T) {
	for _, block := range []int{64, 100, 250, 512, 1024, 4096} {
		for _, size := range []int{12, 24, (block-16)/2 + 1, (block-16)/3 + 1, block - 16} {
			table := api.Table{Name: "t", Kinds: []int{api.Int, api.Text}}
			for i := range 900 {
				table.Rows = append(table.Rows, row(-i, strings.Repeat("\x00", max(0, min(api.MaxText, size-20)))))
			}
			if block-16 < sizeOf(table.Rows[0]) {
				continue
			}
			down := api.Key{Col: 1, Down: true}
			plans := [][]api.Node{
				{scan("t"), sort(0, down, down, down, api.Key{})},
				{scan("t"), top(0, 1, down, down, down, api.Key{})},
				{scan("t"), top(0, 1000, api.Key{}), top(1, 1000, api.Key{Down: true}), top(2, 1000, api.Key{})},
			}
			for _, plan := range plans {
				for _, c := range []api.Config{least(block), {Block: block, Fan: 16, Budget: 4*block + 3}} {
					wantModel(t, fmt.Sprint("rows of ", size, " in blocks of ", block), []api.Table{table}, plan, c)
				}
			}
		}
	}
}

func TestQueryRandomPlans(t *testing.T) {
	r := rand.New(rand.NewSource(9))
	for range 300 {
		c, kinds := randomConfig(r), randomKinds(r)
		tables := []api.Table{tableOf(r, kinds, r.Intn(400), c.Block-16-r.Intn(2)*r.Intn(c.Block/2))}
		wantModel(t, "random rows", tables, randomChain(r, len(kinds)), c)
	}
}
