package promises

import (
	"fmt"
	"math"
	"slices"
	"strings"
	"testing"

	"spillway/api"
	"spillway/spillway"
)

// Columns of the table "t".
const (
	intCol = iota
	textCol
	flagCol
)

func exampleTables() []api.Table {
	return []api.Table{
		{Name: "t", Kinds: []int{api.Int, api.Text, api.Flag}, Rows: []api.Row{row(2, "b", true), row(nil, nil, nil), row(1, "", false)}},
		{Name: "one", Kinds: []int{api.Int}},
		{Name: "six", Kinds: ints(6)},
		{Name: "seven", Kinds: ints(7)},
		{Name: "twelve", Kinds: ints(12)},
		{Name: "", Kinds: []int{api.Flag}, Rows: []api.Row{row(true)}},
	}
}

func ints(n int) []int { return slices.Repeat([]int{api.Int}, n) }

func scan(table string) api.Node { return api.Node{Op: api.Scan, Table: table} }

func sort(left int, keys ...api.Key) api.Node {
	return api.Node{Op: api.Sort, Left: left, Keys: keys}
}

func top(left, count int, keys ...api.Key) api.Node {
	return api.Node{Op: api.Top, Left: left, Count: count, Keys: keys}
}

func join(op, left, right int, cols, others []int) api.Node {
	return api.Node{Op: op, Left: left, Right: right, Cols: cols, Others: others}
}

func distinct(left int) api.Node { return api.Node{Op: api.Distinct, Left: left} }

func group(left int, cols []int, sums ...api.Sum) api.Node {
	return api.Node{Op: api.Group, Left: left, Cols: cols, Sums: sums}
}

func wantValid(t *testing.T, why string, want bool, plan ...api.Node) {
	t.Helper()
	wantValidFor(t, why, want, exampleTables(), plan)
}

func wantValidFor(t *testing.T, why string, want bool, tables []api.Table, plan []api.Node) {
	t.Helper()
	e := api.ErrPlan
	if want {
		e = api.OK
	}
	if got := spillway.Valid(tables, plan); got != e {
		t.Errorf("P4: %s: %d, want %d", why, got, e)
	}
}

func TestScanPlans(t *testing.T) {
	wantValid(t, "a scan", true, scan("t"))
	wantValid(t, "the table of the empty name", true, scan(""))
	wantValid(t, "no such table", false, scan("T"))
	wantValid(t, "twelve columns", true, scan("twelve"))
	wantValidFor(t, "no tables", false, nil, []api.Node{scan("t")})
	wantValidFor(t, "no table of the empty name", false, exampleTables()[:1], []api.Node{scan("")})
	wantValidFor(t, "no plan", false, exampleTables(), nil)
	wantValidFor(t, "an empty plan", false, exampleTables(), []api.Node{})
	wantValidFor(t, "no tables and no plan", false, nil, nil)
}

func TestOperations(t *testing.T) {
	for _, op := range append(edgeInts(), 6, 7, 9) {
		n := scan("t")
		n.Op = op
		wantValid(t, fmt.Sprint("a scan with operation ", op), op == api.Scan, n)
		wantValid(t, fmt.Sprint("nothing but operation ", op), op == api.Scan, api.Node{Op: op})
		wantValid(t, fmt.Sprint("nothing but a left side and operation ", op), op == api.Distinct, scan("t"), api.Node{Op: op})
	}
}

func TestKeys(t *testing.T) {
	for _, make := range []func(keys ...api.Key) api.Node{
		func(keys ...api.Key) api.Node { return sort(0, keys...) },
		func(keys ...api.Key) api.Node { return top(0, 1, keys...) },
	} {
		for count := range 7 {
			keys := slices.Repeat([]api.Key{{Col: textCol}}, count)
			wantValid(t, fmt.Sprint(count, " keys"), count >= 1 && count <= api.MaxKeys, scan("t"), make(keys...))
		}
		for _, col := range edgeInts() {
			ok := col >= 0 && col < 3
			wantValid(t, fmt.Sprint("key of column ", col), ok, scan("t"), make(api.Key{Col: col}))
			wantValid(t, fmt.Sprint("fourth key of column ", col), ok, scan("t"), make(api.Key{Col: 2, Down: true}, api.Key{Last: true}, api.Key{}, api.Key{Col: col, Down: true, Last: true}))
		}
	}
}

func TestTopCount(t *testing.T) {
	for _, count := range append(edgeInts(), 999) {
		wantValid(t, fmt.Sprint("the first ", count), count >= 0 && count <= api.MaxTop, scan("t"), top(0, count, api.Key{}))
	}
}

func TestJoinColumns(t *testing.T) {
	for _, op := range []int{api.Join, api.Outer} {
		plan := func(cols, others []int) []api.Node {
			return []api.Node{scan("t"), scan("six"), join(op, 0, 1, cols, others)}
		}
		for _, col := range edgeInts() {
			wantValid(t, fmt.Sprint("left column ", col), col == intCol, plan([]int{col}, []int{0})...)
			wantValid(t, fmt.Sprint("right column ", col), col >= 0 && col < 6, plan([]int{intCol}, []int{col})...)
			wantValid(t, fmt.Sprint("second left column ", col), col == intCol, plan([]int{0, col}, []int{5, 5})...)
			wantValid(t, fmt.Sprint("second right column ", col), col >= 0 && col < 6, plan([]int{0, 0}, []int{5, col})...)
		}
		for n := range 7 {
			for m := range 7 {
				ok := n == m && n >= 1 && n <= api.MaxKeys
				wantValid(t, fmt.Sprint(n, " columns with ", m), ok, plan(make([]int, n), make([]int, m))...)
			}
		}
		for a := range 3 {
			for b := range 3 {
				wantValid(t, fmt.Sprint("kinds of columns ", a, " and ", b), a == b, scan("t"), scan("t"), join(op, 1, 0, []int{a}, []int{b}))
			}
		}
	}
}

func TestJoinWidth(t *testing.T) {
	on := []int{0}
	for _, op := range []int{api.Join, api.Outer} {
		wantValid(t, "6 and 6 columns", true, scan("six"), scan("six"), join(op, 0, 1, on, on))
		wantValid(t, "7 and 6 columns", false, scan("seven"), scan("six"), join(op, 0, 1, on, on))
		wantValid(t, "12 and 1 columns", false, scan("twelve"), scan("one"), join(op, 0, 1, on, on))
		wantValid(t, "13 columns below a group of one", false, scan("seven"), scan("six"), join(op, 0, 1, on, on), group(2, on))
	}
}

func TestGroupColumns(t *testing.T) {
	count := api.Sum{Op: api.Count}
	wantValid(t, "neither columns nor sums", false, scan("t"), group(0, nil))
	for n := range 7 {
		few := n <= api.MaxKeys
		wantValid(t, fmt.Sprint(n, " columns"), few && n > 0, scan("t"), group(0, make([]int, n)))
		wantValid(t, fmt.Sprint(n, " columns and a sum"), few, scan("t"), group(0, make([]int, n), count))
		wantValid(t, fmt.Sprint(n, " sums"), few && n > 0, scan("t"), group(0, nil, slices.Repeat([]api.Sum{count}, n)...))
		wantValid(t, fmt.Sprint(n, " sums and four columns"), few, scan("t"), group(0, []int{0, 1, 2, 1}, slices.Repeat([]api.Sum{count}, n)...))
	}
	for _, col := range edgeInts() {
		ok := col >= 0 && col < 3
		wantValid(t, fmt.Sprint("column ", col), ok, scan("t"), group(0, []int{col}, count))
		wantValid(t, fmt.Sprint("second column ", col), ok, scan("t"), group(0, []int{2, col}))
		wantValid(t, fmt.Sprint("count of column ", col), col == 0, scan("t"), group(0, nil, api.Sum{Op: api.Count, Col: col}))
		wantValid(t, fmt.Sprint("least of column ", col), ok, scan("t"), group(0, nil, api.Sum{Op: api.Least, Col: col}))
		wantValid(t, fmt.Sprint("greatest of column ", col), ok, scan("t"), group(0, nil, api.Sum{Op: api.Greatest, Col: col}))
		wantValid(t, fmt.Sprint("total of column ", col), col == intCol, scan("t"), group(0, nil, api.Sum{Op: api.Total, Col: col}))
		wantValid(t, fmt.Sprint("total of column ", col, " behind another"), col == intCol, scan("t"), group(0, nil, count, api.Sum{Op: api.Total, Col: col}))
		wantValid(t, fmt.Sprint("sum ", col), col >= api.Count && col <= api.Total, scan("t"), group(0, nil, api.Sum{Op: col}))
	}
	wantValid(t, "a count of the first column, of texts", true, scan(""), group(0, nil, count))
}

// TestKindsOfColumns tells a column's kind by joining it with each of t's.
func TestKindsOfColumns(t *testing.T) {
	on := []int{0}
	for _, c := range []struct {
		why   string
		plan  []api.Node
		kinds []int
	}{
		{"a sort", []api.Node{scan("t"), sort(0, api.Key{Col: 1})}, []int{api.Int, api.Text, api.Flag}},
		{"a top", []api.Node{scan("t"), top(0, 1, api.Key{Col: 1})}, []int{api.Int, api.Text, api.Flag}},
		{"distinct", []api.Node{scan("t"), distinct(0)}, []int{api.Int, api.Text, api.Flag}},
		{"a join", []api.Node{scan(""), scan("t"), join(api.Join, 0, 1, on, []int{flagCol})}, []int{api.Flag, api.Int, api.Text, api.Flag}},
		{"a join of a node ahead", []api.Node{scan(""), scan("t"), join(api.Join, 1, 0, []int{flagCol}, on)}, []int{api.Int, api.Text, api.Flag, api.Flag}},
		{"an outer join", []api.Node{scan(""), scan("t"), join(api.Outer, 0, 1, on, []int{flagCol})}, []int{api.Flag, api.Int, api.Text, api.Flag}},
		{"a group", []api.Node{scan("t"), group(0, []int{2, 1}, api.Sum{Op: api.Count}, api.Sum{Op: api.Least, Col: 1}, api.Sum{Op: api.Greatest, Col: 2}, api.Sum{Op: api.Total})}, []int{api.Flag, api.Text, api.Int, api.Text, api.Flag, api.Int}},
		{"a group of sums", []api.Node{scan("t"), group(0, nil, api.Sum{Op: api.Greatest, Col: 1}, api.Sum{Op: api.Least, Col: 2})}, []int{api.Text, api.Flag}},
	} {
		root := len(c.plan) - 1
		for col := range len(c.kinds) + 1 {
			for other, kind := range []int{api.Int, api.Text, api.Flag} {
				plan := append(slices.Clone(c.plan), scan("t"), join(api.Join, root, root+1, []int{col}, []int{other}))
				ok := col < len(c.kinds) && c.kinds[col] == kind
				wantValidFor(t, fmt.Sprint(c.why, ", column ", col, " as ", kind), ok, exampleTables(), plan)
			}
		}
	}
}

// TestOtherFields sets each field of each operation: only what it has may be set.
func TestOtherFields(t *testing.T) {
	fields := map[string]func(n *api.Node){
		"Left":            func(n *api.Node) { n.Left = 1 },
		"Left below 0":    func(n *api.Node) { n.Left = -1 },
		"Right":           func(n *api.Node) { n.Right = 1 },
		"Right below 0":   func(n *api.Node) { n.Right = -1 },
		"Table":           func(n *api.Node) { n.Table = "t" },
		"Keys":            func(n *api.Node) { n.Keys = []api.Key{{}} },
		"Count":           func(n *api.Node) { n.Count = 1 },
		"Count below 0":   func(n *api.Node) { n.Count = -1 },
		"Cols":            func(n *api.Node) { n.Cols = []int{0} },
		"Others":          func(n *api.Node) { n.Others = []int{0} },
		"Cols and Others": func(n *api.Node) { n.Cols, n.Others = []int{0}, []int{0} },
		"Sums":            func(n *api.Node) { n.Sums = []api.Sum{{Op: api.Count}} },
	}
	on := []int{0}
	for _, c := range []struct {
		why  string
		plan []api.Node
		may  []string
	}{
		{"Scan", []api.Node{scan("")}, []string{"Table"}},
		{"Sort", []api.Node{scan("t"), sort(0, api.Key{Col: 1})}, []string{"Keys"}},
		{"Top", []api.Node{scan("t"), top(0, 0, api.Key{Col: 1})}, []string{"Keys", "Count"}},
		{"Join", []api.Node{scan("t"), scan("t"), join(api.Join, 0, 1, on, on)}, []string{"Right", "Cols", "Others", "Cols and Others"}},
		{"Outer", []api.Node{scan("t"), scan("t"), join(api.Outer, 0, 1, on, on)}, []string{"Right", "Cols", "Others", "Cols and Others"}},
		{"Distinct", []api.Node{scan("t"), distinct(0)}, nil},
		{"Group", []api.Node{scan("t"), group(0, []int{1})}, []string{"Cols", "Sums"}},
	} {
		wantValidFor(t, c.why, true, exampleTables(), c.plan)
		for name, set := range fields {
			plan := slices.Clone(c.plan)
			set(&plan[len(plan)-1])
			wantValidFor(t, c.why+" with "+name, slices.Contains(c.may, name), exampleTables(), plan)
		}
	}
}

func TestPlaces(t *testing.T) {
	on := []int{0}
	for _, at := range edgeInts() {
		wantValid(t, fmt.Sprint("left side ", at), at == 0, scan("t"), sort(at, api.Key{}))
		wantValid(t, fmt.Sprint("top's left side ", at), at == 0, scan("t"), top(at, 0, api.Key{}))
		wantValid(t, fmt.Sprint("distinct left side ", at), at == 0, scan("t"), distinct(at))
		wantValid(t, fmt.Sprint("group's left side ", at), at == 0, scan("t"), group(at, on))
		for _, op := range []int{api.Join, api.Outer} {
			wantValid(t, fmt.Sprint("join's left side ", at), at == 0, scan("t"), scan("t"), join(op, at, 1, on, on))
			wantValid(t, fmt.Sprint("join's right side ", at), at == 1, scan("t"), scan("t"), join(op, 0, at, on, on))
		}
	}
	wantValid(t, "a left side that comes later", false, distinct(1), scan("t"), distinct(0))
	wantValid(t, "two nodes of each other", false, distinct(1), distinct(0), scan("t"))
}

func TestEachNodeStandsOnce(t *testing.T) {
	on := []int{0}
	wantValid(t, "two roots", false, scan("t"), scan("t"))
	wantValid(t, "a chain that is not asked", false, scan("t"), distinct(0), scan("t"), distinct(2))
	wantValid(t, "a node in the midst that is not asked", false, scan("t"), scan("t"), distinct(0))
	wantValid(t, "a root ahead of the last", false, scan("t"), distinct(0), scan("t"))
	for _, op := range []int{api.Join, api.Outer} {
		wantValid(t, "both sides alike", false, scan("t"), join(op, 0, 0, on, on))
		wantValid(t, "both sides alike, another not asked", false, scan("t"), scan("t"), join(op, 1, 1, on, on))
		wantValid(t, "one node asked by two", false, scan("t"), distinct(0), join(op, 0, 1, on, on))
		wantValid(t, "one node asked by two, another by none", false, scan("t"), scan("t"), distinct(0), join(op, 2, 0, on, on))
		wantValid(t, "in any order", true, scan("t"), scan("t"), distinct(0), distinct(1), join(op, 3, 2, on, on))
	}
}

// joinsOf is a plan of so many scans and the joins of all of them.
func joinsOf(scans int) []api.Node {
	plan := slices.Repeat([]api.Node{scan("one")}, scans)
	top := 0
	for right := 1; right < scans; right++ {
		plan = append(plan, join(api.Join, top, right, []int{0}, []int{0}))
		top = len(plan) - 1
	}
	return plan
}

func TestHowManyNodes(t *testing.T) {
	wantValid(t, "11 nodes", true, joinsOf(6)...)
	wantValid(t, "12 nodes", true, append(joinsOf(6), distinct(10))...)
	wantValid(t, "13 nodes", false, joinsOf(7)...)
	wantValid(t, "14 nodes", false, append(joinsOf(7), distinct(12))...)
	wantValid(t, "1000 nodes", false, slices.Repeat([]api.Node{scan("t")}, 1000)...)
}

// chain is a plan of a scan and, one over the other, so many of a node.
func chain(over int, n api.Node) []api.Node {
	plan := []api.Node{scan("t")}
	for left := range over {
		n.Left = left
		plan = append(plan, n)
	}
	return plan
}

func TestDepth(t *testing.T) {
	on := []int{0}
	for _, n := range []api.Node{sort(0, api.Key{}), top(0, 1, api.Key{}), distinct(0), group(0, on)} {
		wantValid(t, "8 deep", true, chain(7, n)...)
		wantValid(t, "9 deep", false, chain(8, n)...)
		wantValid(t, "12 deep", false, chain(11, n)...)
	}
	for _, op := range []int{api.Join, api.Outer} {
		eight, nine := chain(6, distinct(0)), chain(7, distinct(0))
		wantValid(t, "8 deep on the left", true, append(eight, scan("t"), join(op, 6, 7, on, on))...)
		wantValid(t, "9 deep on the left", false, append(nine, scan("t"), join(op, 7, 8, on, on))...)
		wantValid(t, "8 deep on the right", true, append(eight, scan("t"), join(op, 7, 6, on, on))...)
		wantValid(t, "9 deep on the right", false, append(nine, scan("t"), join(op, 8, 7, on, on))...)
		wantValid(t, "8 deep, the deep side last in the list", true, lateChain(op, 6)...)
		wantValid(t, "9 deep, the deep side last in the list", false, lateChain(op, 7)...)
	}
}

// lateChain is a join of a scan that stands first with a chain behind it.
func lateChain(op, over int) []api.Node {
	plan := []api.Node{scan("t"), scan("t")}
	for range over {
		plan = append(plan, distinct(len(plan)-1))
	}
	return append(plan, join(op, 0, len(plan)-1, []int{0}, []int{0}))
}

func TestTableKinds(t *testing.T) {
	for n := range 16 {
		tables := []api.Table{{Name: "t", Kinds: ints(n)}}
		wantValidFor(t, fmt.Sprint(n, " columns"), n >= 1 && n <= api.MaxCols, tables, []api.Node{scan("t")})
	}
	for _, kind := range edgeInts() {
		ok := kind >= api.Int && kind <= api.Flag
		for col := range api.MaxCols {
			kinds := ints(api.MaxCols)
			kinds[col] = kind
			wantValidFor(t, fmt.Sprint("column ", col, " of kind ", kind), ok, []api.Table{{Name: "t", Kinds: kinds}}, []api.Node{scan("t")})
		}
	}
}

func TestTableValues(t *testing.T) {
	long := strings.Repeat("x", api.MaxText)
	for _, c := range []struct {
		why  string
		kind int
		v    api.Value
		ok   bool
	}{
		{"the least int", api.Int, value(math.MinInt), true},
		{"the greatest int", api.Int, value(math.MaxInt), true},
		{"an int with a text", api.Int, api.Value{Kind: api.Int, N: 1, S: "a"}, false},
		{"a text of 200 bytes", api.Text, value(long), true},
		{"a text of 201 bytes", api.Text, value(long + "x"), false},
		{"200 bytes, 100 letters", api.Text, value(strings.Repeat("é", 100)), true},
		{"202 bytes, 101 letters", api.Text, value(strings.Repeat("é", 101)), false},
		{"bytes that are no letters", api.Text, value("\x00\xff\xc0"), true},
		{"a text with a number", api.Text, api.Value{Kind: api.Text, N: 1, S: "a"}, false},
		{"an empty text with a number", api.Text, api.Value{Kind: api.Text, N: -1}, false},
		{"flag 0", api.Flag, value(false), true},
		{"flag 1", api.Flag, value(true), true},
		{"flag 2", api.Flag, api.Value{Kind: api.Flag, N: 2}, false},
		{"flag -1", api.Flag, api.Value{Kind: api.Flag, N: -1}, false},
		{"a flag with a text", api.Flag, api.Value{Kind: api.Flag, N: 1, S: "1"}, false},
		{"kind 4", api.Int, api.Value{Kind: 4}, false},
		{"kind -1", api.Int, api.Value{Kind: -1}, false},
	} {
		tables := []api.Table{{Name: "t", Kinds: []int{c.kind}, Rows: []api.Row{row(nil), {c.v}}}}
		wantValidFor(t, c.why, c.ok, tables, []api.Node{scan("t")})
	}
	for kind, own := range []any{api.Int: 1, api.Text: "a", api.Flag: true} {
		for other, v := range []any{api.Null: nil, api.Int: 1, api.Text: "a", api.Flag: true} {
			if kind != api.Null {
				tables := []api.Table{{Name: "t", Kinds: []int{kind, kind}, Rows: []api.Row{row(own, v)}}}
				wantValidFor(t, fmt.Sprint("kind ", other, " in a column of kind ", kind), other == kind || v == nil, tables, []api.Node{scan("t")})
			}
		}
		if kind != api.Null {
			for _, v := range []api.Value{{N: 1}, {N: -1}, {S: "a"}} {
				tables := []api.Table{{Name: "t", Kinds: []int{kind}, Rows: []api.Row{{v}}}}
				wantValidFor(t, "a Null with something", false, tables, []api.Node{scan("t")})
			}
		}
	}
}

func TestTableRows(t *testing.T) {
	kinds := []int{api.Int, api.Text}
	for _, c := range []struct {
		why  string
		rows []api.Row
		ok   bool
	}{
		{"no rows", nil, true},
		{"a row", []api.Row{row(1, "a")}, true},
		{"a row twice", []api.Row{row(1, "a"), row(1, "a")}, true},
		{"a nil row", []api.Row{nil}, false},
		{"an empty row", []api.Row{{}}, false},
		{"a short row", []api.Row{row(1)}, false},
		{"a long row", []api.Row{row(1, "a", nil)}, false},
		{"the last row is short", []api.Row{row(1, "a"), row(2, "b"), row(3)}, false},
		{"the last value is of another kind", []api.Row{row(1, "a"), row(2, 3)}, false},
		{"more than MaxRows rows", slices.Repeat([]api.Row{row(1, "a")}, api.MaxRows+1), true},
	} {
		wantValidFor(t, c.why, c.ok, []api.Table{{Name: "t", Kinds: kinds, Rows: c.rows}}, []api.Node{scan("t")})
	}
}

func TestTableNames(t *testing.T) {
	good := api.Table{Name: "t", Kinds: []int{api.Int}}
	named := func(name string) api.Table { return api.Table{Name: name, Kinds: []int{api.Int}} }
	for _, c := range []struct {
		why    string
		tables []api.Table
		ok     bool
	}{
		{"two of one name", []api.Table{good, named("t")}, false},
		{"two of one name that is not asked", []api.Table{named("u"), good, named("u")}, false},
		{"two of the empty name", []api.Table{named(""), good, named("")}, false},
		{"names that begin alike", []api.Table{good, named("t\x00"), named("T"), named(""), named("tt")}, true},
		{"a bad table that is not asked", []api.Table{good, {Name: "u"}}, false},
		{"a bad row in a table that is not asked", []api.Table{good, {Name: "u", Kinds: []int{api.Int}, Rows: []api.Row{row("a")}}}, false},
	} {
		wantValidFor(t, c.why, c.ok, c.tables, []api.Node{scan("t")})
	}
	for _, name := range []string{"", "\x00", "\xff", strings.Repeat("n", 1000)} {
		wantValidFor(t, fmt.Sprintf("the name %q", name), true, []api.Table{named(name)}, []api.Node{scan(name)})
	}
}
