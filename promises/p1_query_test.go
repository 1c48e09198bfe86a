package promises

import (
	"fmt"
	"math/rand"
	"slices"
	"sync"
	"testing"

	"spillway/api"
	"spillway/disk"
	"spillway/spillway"
)

// queryPlans are some of which one fits into memory, and others do not.
func queryPlans() [][]api.Node {
	return [][]api.Node{
		{scan("t")}, {scan("t"), sort(0, api.Key{Down: true})}, {scan("t"), top(0, 9, api.Key{Col: 1})},
		{scan("t"), sort(0, api.Key{Col: 1}), sort(1, api.Key{Last: true})},
		{scan("t"), distinct(0)}, {scan("t"), group(0, []int{1}, sum(api.Count, 0), sum(api.Total, 0))}, {scan("t"), group(0, nil, sum(api.Least, 1))},
		{scan("t"), group(0, []int{0}), scan("t"), group(2, []int{0}, sum(api.Count, 0)), join(api.Join, 1, 3, []int{0}, []int{0})},
		{scan("t"), scan("t"), group(1, []int{0}), join(api.Outer, 2, 0, []int{0, 0}, []int{0, 0}), sort(3, api.Key{Col: 1})},
		{scan("t"), sort(0, api.Key{Col: 9})}, nil,
	}
}

func TestQueryLeavesListsAlone(t *testing.T) {
	for _, n := range []int{0, 3, 40} {
		for _, plan := range queryPlans() {
			for _, c := range []api.Config{least(64), least(63), {Block: 64, Fan: 2, Budget: 1 << 20}} {
				var w watch
				tables := watchTables(&w, append(exampleTables()[1:], tableOf(rand.New(rand.NewSource(14)), []int{api.Int, api.Text}, n, 48)))
				plan := watchPlan(&w, plan)
				w.start()
				rows, e := ask(t, "Query", tables, plan, c, bigDisk())
				w.check(t, "Query")
				spoil(rows)
				w.check(t, "Query's answer was written to")
				if again, f := ask(t, "Query", tables, plan, c, bigDisk()); f != e || len(again) != len(rows) {
					t.Errorf("P1: Query: %d, then %d", e, f)
				}
			}
		}
	}
}

// spoil writes to all that an answer has, its spare room too.
func spoil(rows []api.Row) {
	whole := rows[:cap(rows)]
	for i := range whole {
		fill(whole[i], i)
	}
	for i := range whole {
		whole[i] = api.Row{value("spoilt")}
	}
}

func fill(r api.Row, n int) {
	r = r[:cap(r)]
	for i := range r {
		r[i] = value(n)
	}
}

// TestQueryRowsAreApart: no two rows of an answer share memory, though the
// table's may.
func TestQueryRowsAreApart(t *testing.T) {
	shared := slices.Repeat(row(1, 2), 50)
	table := api.Table{Name: "t", Kinds: []int{api.Int, api.Int}}
	for i := range 40 {
		table.Rows = append(table.Rows, shared[2*i:2*i+2], shared[:2])
	}
	on := []int{0}
	for _, plan := range [][]api.Node{
		{scan("t")}, {scan("t"), sort(0, api.Key{})}, {scan("t"), top(0, 30, api.Key{})},
		{scan("t"), scan("t"), join(api.Join, 0, 1, on, on)}, {scan("t"), scan("t"), join(api.Outer, 0, 1, on, on), sort(2, api.Key{})},
		{scan("t"), scan("t"), top(1, 0, api.Key{}), join(api.Outer, 0, 2, on, on)},
	} {
		for _, c := range []api.Config{least(64), {Block: 64, Fan: 2, Budget: 1 << 20}} {
			rows, _ := ask(t, "rows that share memory", []api.Table{table}, plan, c, bigDisk())
			for i, r := range rows {
				fill(r, i)
			}
			for i, r := range rows {
				for _, v := range r[:cap(r)] {
					if v != value(i) {
						t.Fatalf("P1: row %d shares memory with row %d", i, v.N)
					}
				}
			}
			if len(rows) < 30 || !slices.Equal(shared, slices.Repeat(row(1, 2), 50)) {
				t.Errorf("P1: %d rows; %v", len(rows), shared)
			}
		}
	}
}

func (h hostile) config() api.Config {
	c := randomConfig(h.Rand)
	switch h.Intn(6) {
	case 0:
		c.Block = h.int()
	case 1:
		c.Fan = h.int()
	case 2:
		c.Budget = h.int()
	case 3:
		c = api.Config{Block: h.int(), Fan: h.int(), Budget: h.int()}
	}
	return c
}

func (h hostile) disk() *disk.Disk {
	d := disk.New(min(h.int(), 1<<20), min(h.int(), 1<<20))
	if h.Intn(2) == 0 {
		d = disk.New(64+h.Intn(5000), h.Intn(100))
	}
	if h.Intn(3) == 0 {
		d.Fault(1+h.Intn(3), 1+h.Intn(50), h.int())
	}
	return d
}

func TestQueryNeverPanics(t *testing.T) {
	h := hostile{rand.New(rand.NewSource(15)), edgeInts()}
	for range 20000 {
		tables, plan := append(exampleTables()[1:], h.table()), []api.Node{}
		for range h.Intn(16) {
			n := h.node()
			if h.Intn(8) > 0 {
				n = lean(n)
			}
			plan = append(plan, n)
		}
		c, d := h.config(), h.disk()
		if _, e := ask(t, "hostile", tables, plan, c, d); e < api.OK || e > api.ErrMany {
			t.Fatalf("P1: Query: %d", e)
		}
	}
}

// TestQueryAnswersNothingElse: valid plans, and all kinds of configurations,
// disks and faults: the model's answer, or what the disk may make of it.
func TestQueryAnswersNothingElse(t *testing.T) {
	h := hostile{rand.New(rand.NewSource(16)), edgeInts()}
	seen := map[api.Errno]int{}
	for range 3000 {
		kinds := randomKinds(h.Rand)
		tables := []api.Table{tableOf(h.Rand, kinds, h.Intn(60), 48+h.Intn(200))}
		plan, c, d := randomChain(h.Rand, len(kinds)), h.config(), h.disk()
		if h.Intn(2) == 0 {
			tables = randomTables(h.Rand, 60, 48+h.Intn(200))
			plan = randomTree(h.Rand, tables)
		}
		rows, e := ask(t, "anything", tables, plan, c, d)
		seen[e]++
		if want, f := modelOf(tables, plan, c, d); e != f || !sameRows(rows, want) {
			if f == api.ErrPlan || f == api.ErrBudget || e != api.ErrFull && e != api.ErrFail && e != api.ErrBroken {
				t.Fatalf("P7: %d rows, %d, want %d, %d (%+v)", len(rows), e, len(want), f, c)
			}
		}
	}
	for _, e := range []api.Errno{api.OK, api.ErrPlan, api.ErrBudget, api.ErrRow, api.ErrOverflow, api.ErrFull, api.ErrFail, api.ErrBroken} {
		if seen[e] == 0 {
			t.Errorf("error %d was never seen: %v", e, fmt.Sprint(seen))
		}
	}
}

// modelOf is the model with the first two errors of P6; the plan is valid.
func modelOf(tables []api.Table, plan []api.Node, c api.Config, d *disk.Disk) ([]api.Row, api.Errno) {
	switch {
	case c.Block < 64 || c.Block > 4096 || c.Fan < 2 || c.Fan > 16:
		return nil, api.ErrPlan
	case c.Budget < 4*c.Block || d.Block() < c.Block:
		return nil, api.ErrBudget
	}
	rows, e, _ := model(tables, plan, c)
	return rows, e
}

func TestQueryNilIsAsGoodAsEmpty(t *testing.T) {
	tables := append(documentTables(), api.Table{Name: "none", Kinds: []int{api.Int}, Rows: []api.Row{}})
	plan := emptied([]api.Node{scan("t"), sort(0, api.Key{}), top(1, 2, api.Key{Down: true})})
	rows, e := ask(t, "empty lists", tables, plan, least(64), bigDisk())
	if e != api.OK || !sameRows(rows, []api.Row{row(nil, "c"), row(2, "b")}) {
		t.Errorf("P1: %v, %d", rows, e)
	}
	wantErrnoOf(t, "empty tables", []api.Table{}, plan, least(64), api.ErrPlan)
	wantErrnoOf(t, "an empty plan", tables, []api.Node{}, least(64), api.ErrPlan)
}

// TestQueriesAtOneTime: each with its own disk, all with the same tables.
func TestQueriesAtOneTime(t *testing.T) {
	tables, plans := spilling()
	var group sync.WaitGroup
	for i := range 8 {
		plan := plans[i%len(plans)]
		want, _, _ := model(tables, plan, least(64))
		group.Go(func() {
			for range 10 {
				if rows, e := spillway.Query(tables, plan, least(64), bigDisk()); e != api.OK || !sameRows(rows, want) {
					t.Errorf("P1: %d rows, %d", len(rows), e)
				}
			}
		})
	}
	group.Wait()
}
