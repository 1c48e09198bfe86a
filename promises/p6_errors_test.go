package promises

import (
	"fmt"
	"math"
	"slices"
	"strings"
	"testing"

	"spillway/api"
	"spillway/disk"
)

// TestJoinHowManyRows: as many as may be, and one more.
func TestJoinHowManyRows(t *testing.T) {
	on := []int{0}
	odd := func(i int) any { return []any{7, 8}[min(1, i/100)] }
	for _, x := range []struct {
		why         string
		left, right []api.Row
		op, rows    int
	}{
		{"100 and 200 of one key", keyed(100, constant), keyed(200, constant), api.Join, 20000},
		{"100 and 201", keyed(100, constant), keyed(201, constant), api.Join, 20100},
		{"a row of Left for which there is none", keyed(101, odd), keyed(200, constant), api.Join, 20000},
		{"the same, outer", keyed(101, odd), keyed(200, constant), api.Outer, 20001},
		{"and ahead of the others", append(keyed(100, constant), row(nil, 1)), keyed(200, constant), api.Outer, 20001},
		{"a row of Right for which there is none", keyed(100, constant), append(keyed(200, constant), row(8, 8), row(nil, 1)), api.Outer, 20000},
		{"nothing but rows for which there is none", keyed(20000, constant), nil, api.Outer, 20000},
		{"one of Left with all of Right", keyed(1, constant), keyed(20000, constant), api.Join, 20000},
		{"two of Left with half of Right, and one more", keyed(3, func(i int) any { return 7 + i/2 }), append(keyed(10000, constant), row(8, 8)), api.Join, 20001},
		{"20000 and 20000", keyed(20000, constant), keyed(20000, constant), api.Join, 400000000},
	} {
		tables := []api.Table{{Name: "t", Kinds: ints(2), Rows: x.left}, {Name: "u", Kinds: ints(2), Rows: x.right}}
		for _, c := range []api.Config{least(64), {Block: 300, Fan: 5, Budget: 5000}} {
			rows, e := ask(t, x.why, tables, sides(x.op, on, on), c, bigDisk())
			if x.rows > api.MaxRows && e != api.ErrMany || x.rows <= api.MaxRows && (e != api.OK || len(rows) != x.rows) {
				t.Errorf("P6: %s: %d rows, %d", x.why, len(rows), e)
			}
			counted, e := ask(t, x.why, tables, append(sides(x.op, on, on), group(2, nil, sum(api.Count, 0))), c, bigDisk())
			if x.rows > api.MaxRows && e != api.ErrMany || x.rows <= api.MaxRows && !sameRows(counted, []api.Row{row(x.rows)}) {
				t.Errorf("P6: %s: %v, %d", x.why, counted, e)
			}
		}
	}
}

// TestJoinAndGroupHowLargeRows: a block's size less 16, and one more byte.
func TestJoinAndGroupHowLargeRows(t *testing.T) {
	long := strings.Repeat("x", 60)
	tables := two([]api.Row{row(5, long), row(4, "")}, []api.Row{row(5, true, 9), row(3, nil, nil)})
	on := []int{0}
	for _, x := range []struct {
		why  string
		plan []api.Node
		size int
	}{
		{"a join", sides(api.Join, on, on), 8 + 9 + 63 + 9 + 2 + 9},
		{"an outer join", sides(api.Outer, on, on), 8 + 9 + 63 + 9 + 2 + 9},
		{"an outer join's Nulls", sides(api.Outer, on, []int{2}), 8 + 9 + 63 + 3},
		{"the columns of a group", []api.Node{scan("u"), scan("t"), group(1, []int{1, 1, 0}), join(api.Outer, 0, 2, on, []int{2})}, 8 + 9 + 2 + 9 + 63 + 63 + 9},
		{"a group", []api.Node{scan("t"), group(0, []int{1, 1})}, 8 + 63 + 63},
		{"sums", []api.Node{scan("t"), group(0, nil, sum(api.Greatest, 1), sum(api.Count, 0), sum(api.Total, 0), sum(api.Greatest, 1))}, 8 + 63 + 9 + 9 + 63},
		{"a group with no rows taken", []api.Node{scan("t"), group(0, []int{1, 1}), top(1, 0, api.Key{})}, 8 + 63 + 63},
		{"a join with no rows taken", append(sides(api.Join, on, on), sort(2, api.Key{}), top(3, 0, api.Key{})), 8 + 9 + 63 + 9 + 2 + 9},
	} {
		for block := x.size + 13; block < x.size+20; block++ {
			want := api.OK
			if x.size > block-16 {
				want = api.ErrRow
			}
			wantErrnoOf(t, x.why, tables, x.plan, least(block), want)
			wantErrnoOf(t, x.why, tables, x.plan, api.Config{Block: block, Fan: 16, Budget: 1 << 20}, want)
		}
	}
}

// TestOneNodesErrorsInOrder: too many rows, then an overflow, then too large
// rows, wherever among the rows they are.
func TestOneNodesErrorsInOrder(t *testing.T) {
	on := []int{0}
	for _, op := range []int{api.Join, api.Outer} {
		for _, at := range []int{0, 50, 99} {
			left, right := slices.Repeat([]api.Row{row(7, "")}, 100), slices.Repeat([]api.Row{row(7, true)}, 201)
			left[at] = row(7, strings.Repeat("x", 28))
			wantErrnoOf(t, "as many rows as may be", two(left, right[:200]), sides(op, on, on), least(75), api.OK)
			wantErrnoOf(t, "as many rows as may be, of which some are too large", two(left, right[:200]), sides(op, on, on), least(74), api.ErrRow)
			wantErrnoOf(t, "too many rows, of which some are too large", two(left, right), sides(op, on, on), least(74), api.ErrMany)
		}
	}
	by := []api.Node{scan("t"), group(0, []int{0, 0, 1}, sum(api.Total, 2))}
	text := strings.Repeat("x", 11)
	for _, x := range []struct {
		why  string
		rows []api.Row
		want api.Errno
	}{
		{"neither", []api.Row{row("a", 1, math.MaxInt), row("b", 1, 1)}, api.OK},
		{"a large row", []api.Row{row("a", 1, math.MaxInt), row(text, 1, 1)}, api.ErrRow},
		{"an overflow", []api.Row{row("a", 1, math.MaxInt), row("a", 1, 1)}, api.ErrOverflow},
		{"an overflow ahead of a large row", []api.Row{row("a", 1, math.MaxInt), row("a", 1, 1), row(text, 1, 1)}, api.ErrOverflow},
		{"an overflow behind a large row", []api.Row{row(text, 1, 1), row("y", 1, math.MinInt), row("y", 1, -1)}, api.ErrOverflow},
		{"an overflow in a large row", []api.Row{row(text, 1, math.MinInt), row(text, 1, -1)}, api.ErrOverflow},
	} {
		for _, c := range []api.Config{least(64), {Block: 64, Fan: 2, Budget: 1 << 20}} {
			wantErrnoOf(t, x.why, tableT(x.rows...), by, c, x.want)
			wantErrnoOf(t, x.why+", among many", tableT(append(slices.Repeat([]api.Row{row("k", 2, 0)}, 200), x.rows...)...), by, c, x.want)
		}
	}
}

// faulty are tables of which something goes wrong: in the table itself, or in
// what is made of it.
func faulty() []api.Table {
	long := strings.Repeat("x", 40)
	return []api.Table{
		{Name: "good", Kinds: []int{api.Int}, Rows: []api.Row{row(1), row(nil), row(2)}},
		{Name: "large", Kinds: []int{api.Int, api.Text}, Rows: []api.Row{row(1, "a"), row(1, long)}},
		{Name: "many", Kinds: []int{api.Int}, Rows: slices.Repeat([]api.Row{row(1)}, api.MaxRows+1)},
		{Name: "over", Kinds: []int{api.Int}, Rows: []api.Row{row(math.MaxInt), row(1)}},
		{Name: "wide", Kinds: []int{api.Int, api.Text}, Rows: []api.Row{row(1, long[:20])}},
		{Name: "alike", Kinds: []int{api.Int}, Rows: slices.Repeat([]api.Row{row(1)}, 142)},
	}
}

// branch is some nodes that have an error, in blocks of 64 bytes, and what
// they may be followed by: the last of them has an Int as its first column.
type branch struct {
	why   string
	nodes []api.Node
	want  api.Errno
}

func branches() []branch {
	on, total := []int{0}, []api.Sum{sum(api.Total, 0)}
	return []branch{
		{"nothing", []api.Node{scan("good")}, api.OK},
		{"nothing, grouped", []api.Node{scan("good"), group(0, on, total...), sort(1, api.Key{})}, api.OK},
		{"a large row", []api.Node{scan("large")}, api.ErrRow},
		{"many rows", []api.Node{scan("many")}, api.ErrMany},
		{"an overflow", []api.Node{scan("over"), group(0, nil, total...)}, api.ErrOverflow},
		{"an overflow, sorted", []api.Node{scan("over"), group(0, nil, total...), sort(1, api.Key{}), distinct(2)}, api.ErrOverflow},
		{"an overflow, of which nothing is taken", []api.Node{scan("over"), group(0, nil, total...), top(1, 0, api.Key{})}, api.ErrOverflow},
		{"a large row of a join", []api.Node{scan("wide"), scan("wide"), join(api.Join, 0, 1, on, on)}, api.ErrRow},
		{"a large row of a join, grouped", []api.Node{scan("wide"), scan("wide"), join(api.Outer, 0, 1, on, on), group(2, on)}, api.ErrRow},
		{"many rows of a join", []api.Node{scan("alike"), scan("alike"), join(api.Join, 0, 1, on, on)}, api.ErrMany},
		{"many rows of a join, of which few are taken", []api.Node{scan("alike"), scan("alike"), join(api.Outer, 0, 1, on, on), distinct(2), top(3, 1, api.Key{})}, api.ErrMany},
		{"a large row of a group", []api.Node{scan("good"), group(0, slices.Repeat(on, 4), sum(api.Count, 0))}, api.ErrRow},
	}
}

// moved is a branch's nodes, so many places further back.
func moved(nodes []api.Node, by int) []api.Node {
	nodes = slices.Clone(nodes)
	for i := range nodes {
		if nodes[i].Op != api.Scan {
			nodes[i].Left += by
		}
		if nodes[i].Op == api.Join || nodes[i].Op == api.Outer {
			nodes[i].Right += by
		}
	}
	return nodes
}

// TestFirstNodeDecides: of two branches that have an error the one which has
// it first in the list, whichever side of the join it is.
func TestFirstNodeDecides(t *testing.T) {
	tables, on := faulty(), []int{0}
	for _, a := range branches() {
		for _, b := range branches() {
			want := a.want
			if want == api.OK {
				want = b.want
			}
			plan := append(slices.Clone(a.nodes), moved(b.nodes, len(a.nodes))...)
			left, right := len(a.nodes)-1, len(plan)-1
			for _, root := range []api.Node{join(api.Join, left, right, on, on), join(api.Outer, right, left, on, on)} {
				for _, c := range []api.Config{least(64), {Block: 64, Fan: 16, Budget: 1 << 20}} {
					whole := append(slices.Clone(plan), root)
					why := a.why + ", and " + b.why
					wantErrnoOf(t, why, tables, whole, c, want)
					wantErrnoOf(t, why+", counted", tables, append(whole, group(len(whole)-1, nil, sum(api.Count, 0))), c, want)
				}
			}
		}
	}
}

// TestFirstNodeDecidesInMixedLists: the nodes of two branches take turns in the
// list.
func TestFirstNodeDecidesInMixedLists(t *testing.T) {
	tables, on := faulty(), []int{0}
	total := sum(api.Total, 0)
	for _, x := range []struct {
		why  string
		plan []api.Node
		want api.Errno
	}{
		{"a scan ahead of a group of the first scan", []api.Node{scan("over"), scan("large"), group(0, nil, total), join(api.Join, 2, 1, on, on)}, api.ErrRow},
		{"a scan behind it", []api.Node{scan("over"), group(0, nil, total), scan("large"), join(api.Join, 1, 2, on, on)}, api.ErrOverflow},
		{"a scan behind its sort", []api.Node{scan("over"), group(0, nil, total), sort(1, api.Key{}), scan("large"), join(api.Join, 3, 2, on, on)}, api.ErrOverflow},
		{"a join ahead of the group", []api.Node{scan("over"), scan("alike"), scan("alike"), join(api.Join, 1, 2, on, on), group(0, nil, total), join(api.Join, 3, 4, on, on)}, api.ErrMany},
		{"a join behind the group", []api.Node{scan("over"), scan("alike"), scan("alike"), group(0, nil, total), join(api.Join, 1, 2, on, on), join(api.Join, 3, 4, on, on)}, api.ErrOverflow},
		{"two groups", []api.Node{scan("over"), scan("good"), group(1, []int{0, 0, 0, 0}, sum(api.Count, 0)), group(0, nil, total), join(api.Join, 3, 2, on, on)}, api.ErrRow},
		{"two groups, the other way round", []api.Node{scan("over"), scan("good"), group(0, nil, total), group(1, []int{0, 0, 0, 0}, sum(api.Count, 0)), join(api.Join, 3, 2, on, on)}, api.ErrOverflow},
		{"a chain: a large row, then an overflow", []api.Node{scan("over"), group(0, []int{0, 0, 0, 0}, sum(api.Count, 0)), group(1, nil, total)}, api.ErrRow},
		{"a chain: an overflow, then a large row", []api.Node{scan("over"), group(0, nil, total), group(1, []int{0, 0, 0, 0}, sum(api.Count, 0))}, api.ErrOverflow},
		{"a group of a join of many rows", []api.Node{scan("alike"), scan("alike"), join(api.Join, 0, 1, on, on), group(2, []int{0, 0, 0, 0}, sum(api.Count, 0))}, api.ErrMany},
		{"a join of a join with too large rows", []api.Node{scan("wide"), scan("wide"), join(api.Join, 0, 1, on, on), scan("many"), join(api.Join, 2, 3, on, on)}, api.ErrRow},
	} {
		for _, c := range []api.Config{least(64), {Block: 64, Fan: 3, Budget: 700}, {Block: 64, Fan: 16, Budget: 1 << 20}} {
			wantErrnoOf(t, x.why, tables, x.plan, c, x.want)
			wantModel(t, x.why, tables, x.plan, c)
		}
	}
}

// TestAllOperationsErrorsInOrder: the first two errors of P6 come ahead of all
// others, and nothing is written with them.
func TestAllOperationsErrorsInOrder(t *testing.T) {
	tables := faulty()
	for _, b := range branches() {
		for _, x := range []struct {
			c     api.Config
			block int
			want  api.Errno
		}{
			{api.Config{Block: 63, Fan: 2, Budget: 1000}, 64, api.ErrPlan}, {api.Config{Block: 64, Fan: 17, Budget: 10}, 64, api.ErrPlan},
			{api.Config{Block: 64, Fan: 2, Budget: 255}, 64, api.ErrBudget}, {least(64), 63, api.ErrBudget}, {least(64), 64, b.want},
		} {
			d := disk.New(x.block, 1<<20)
			if _, e := ask(t, b.why, tables, b.nodes, x.c, d); e != x.want {
				t.Errorf("P6: %s: %d, want %d (%+v)", b.why, e, x.want, x.c)
			}
			if (x.want == api.ErrPlan || x.want == api.ErrBudget) && d.Wrote() > 0 {
				t.Errorf("P6: %s: %d blocks were written", b.why, d.Wrote())
			}
		}
		invalid := append(slices.Clone(b.nodes), group(len(b.nodes)-1, []int{99}))
		wantErrnoOf(t, fmt.Sprint(b.why, ", and no column"), tables, invalid, least(64), api.ErrPlan)
	}
}
