package promises

import (
	"fmt"
	"math"
	"math/rand"
	"slices"
	"strings"
	"testing"

	"spillway/api"
	"spillway/disk"
)

// usedDisk has files of others, which a query must leave alone, and so many
// free blocks.
func usedDisk(block, free int) *disk.Disk {
	d := disk.New(block, free+3)
	for _, texts := range [][]string{{"a", "b"}, {}, {"c"}} {
		file := d.Create()
		for _, text := range texts {
			d.Append(file, text)
		}
	}
	return d
}

func wantOthersKept(t *testing.T, why string, d *disk.Disk) {
	t.Helper()
	for kind := range 4 {
		d.Fault(kind, 0, 0)
	}
	for at, want := range map[[2]int]string{{1, 0}: "a", {1, 1}: "b", {3, 0}: "c"} {
		if got, e := d.Read(at[0], at[1]); got != want || e != api.OK {
			t.Errorf("P8: %s: block %d of file %d is %q, %d", why, at[1], at[0], got, e)
		}
	}
	if _, e := d.Read(2, 0); e != api.ErrBlock || d.Used() != 3 || d.Files() != 3 {
		t.Errorf("P8: %s: %d blocks and %d files", why, d.Used(), d.Files())
	}
}

// spilling has plans that write runs, and merge them, at the least budget. All
// of them scan the table "t" first.
func spilling() ([]api.Table, [][]api.Node) {
	r := rand.New(rand.NewSource(11))
	other := tableOf(r, []int{api.Int, api.Int}, 60, 26)
	other.Name = "u"
	tables := []api.Table{tableOf(r, []int{api.Int, api.Text, api.Flag}, 90, 48), other}
	down, on := api.Key{Down: true}, []int{0}
	return tables, [][]api.Node{
		{scan("t"), sort(0, api.Key{})},
		{scan("t"), top(0, 20, api.Key{Col: 1})},
		{scan("t"), sort(0, api.Key{Col: 1}), sort(1, down), top(2, 60, api.Key{Col: 2})},
		{scan("t"), distinct(0)},
		{scan("t"), group(0, []int{1, 0}), group(1, []int{1}, sum(api.Greatest, 0))},
		{scan("t"), group(0, []int{0, 2}), scan("u"), join(api.Join, 1, 2, on, on)},
		{scan("t"), group(0, []int{0, 2}), scan("u"), sort(2, down), join(api.Outer, 3, 1, on, on), distinct(4), group(5, []int{1}, sum(api.Count, 0))},
	}
}

// TestQueryOnADiskThatFails: each kind of fault, at each place where it can
// come, and at those behind the last.
func TestQueryOnADiskThatFails(t *testing.T) {
	c := least(64)
	tables, plans := spilling()
	for _, plan := range plans {
		rows, _, room := model(tables, plan, c)
		for kind, may := range map[int]api.Errno{1: api.ErrFail, 2: api.ErrFail, 3: api.ErrBroken} {
			came := 0
			for n := 1; n < 100 || came > n-100; n++ {
				why := fmt.Sprint("fault ", kind, " at ", n)
				d := usedDisk(c.Block, room)
				d.Fault(kind, n, 13*n)
				got, e := ask(t, why, tables, plan, c, d)
				switch {
				case e == may:
					came = n
				case e != api.OK || !sameRows(got, rows):
					t.Fatalf("P7: %s: %d rows, %d", why, len(got), e)
				case kind == 1 && d.Wrote() >= n+3:
					t.Fatalf("P7: %s: the disk has failed, and rows came", why)
				}
				wantOthersKept(t, why, d)
			}
			if came < 20 {
				t.Errorf("P7: fault %d came at %d at the latest", kind, came)
			}
		}
	}
}

func TestQueryOnASmallDisk(t *testing.T) {
	c := least(64)
	tables, plans := spilling()
	for _, plan := range plans {
		rows, _, room := model(tables, plan, c)
		full := 0
		for free := range room + 2 {
			why := fmt.Sprint(free, " free blocks")
			d := usedDisk(c.Block, free)
			got, e := ask(t, why, tables, plan, c, d)
			switch {
			case e == api.ErrFull && free < room:
				full++
			case e != api.OK || !sameRows(got, rows):
				t.Fatalf("P7: %s: %d rows, %d", why, len(got), e)
			}
			wantOthersKept(t, why, d)
		}
		if full < 5 {
			t.Errorf("P7: the disk was full %d times", full)
		}
	}
}

// TestQueryGivesBackWithEachError: P8, of P6's errors.
func TestQueryGivesBackWithEachError(t *testing.T) {
	tables, plans := spilling()
	long := []api.Table{{Name: "t", Kinds: tables[0].Kinds, Rows: append(tables[0].Rows, row(nil, strings.Repeat("x", 99), nil))}, tables[1]}
	many := []api.Table{{Name: "t", Kinds: tables[0].Kinds, Rows: make([]api.Row, api.MaxRows+1)}, tables[1]}
	for i := range many[0].Rows {
		many[0].Rows[i] = row(nil, nil, nil)
	}
	for _, plan := range plans {
		for _, x := range []struct {
			tables []api.Table
			plan   []api.Node
			c      api.Config
			want   api.Errno
		}{
			{tables, plan, least(64), api.OK}, {nil, plan, least(64), api.ErrPlan}, {tables, plan, least(63), api.ErrPlan},
			{tables, plan, api.Config{Block: 64, Fan: 2}, api.ErrBudget}, {tables, plan, least(65), api.ErrBudget},
			{long, plan, least(64), api.ErrRow}, {many, plan, least(64), api.ErrMany},
		} {
			d := usedDisk(64, 10000)
			if _, e := ask(t, "each error", x.tables, x.plan, x.c, d); e != x.want {
				t.Errorf("P6: %d, want %d", e, x.want)
			}
			wantOthersKept(t, fmt.Sprint("error ", x.want), d)
		}
	}
}

// TestQueryGivesBackWhereANodeDecides: P8, of errors that come when much is on
// the disk already; and with just room enough no other error comes.
func TestQueryGivesBackWhereANodeDecides(t *testing.T) {
	tables, plans := spilling()
	tables = append(tables, faulty()...)
	plan := plans[len(plans)-1]
	c := least(64)
	for _, b := range branches() {
		whole := append(slices.Clone(plan), moved(b.nodes, len(plan))...)
		whole = append(whole, join(api.Outer, len(plan)-1, len(whole)-1, []int{1}, []int{0}))
		if len(whole) > api.MaxNodes {
			whole = append(slices.Clone(plan[:4]), moved(b.nodes, 4)...)
			whole = append(whole, join(api.Outer, 3, len(whole)-1, []int{0}, []int{0}))
			whole[3] = join(api.Join, 1, 2, []int{0}, []int{0})
		}
		_, e, room := model(tables, whole, c)
		if b.want != api.OK && e != b.want {
			t.Fatalf("%s: the model says %d, want %d", b.why, e, b.want)
		}
		d := usedDisk(c.Block, room)
		if _, got := ask(t, b.why, tables, whole, c, d); got != e {
			t.Errorf("P7: %s: %d, want %d", b.why, got, e)
		}
		if d.Wrote() < 100 {
			t.Errorf("%s: %d blocks are too few for this test", b.why, d.Wrote())
		}
		wantOthersKept(t, b.why, d)
	}
}

// mustWrite is how many blocks P9 asks for.
func mustWrite(rows []api.Row, c api.Config) int {
	return max(0, volumeOf(rows)-c.Budget) / c.Block
}

func wantSpilled(t *testing.T, why string, tables []api.Table, c api.Config) int {
	t.Helper()
	d := bigDisk()
	plan := []api.Node{scan("t"), sort(0, api.Key{Down: true})}
	if _, e := ask(t, why, tables, plan, c, d); e != api.OK {
		t.Fatalf("P6: %s: %d (%+v)", why, e, c)
	}
	want := mustWrite(tables[0].Rows, c)
	if d.Wrote() < want {
		t.Errorf("P9: %s: %d blocks were written, want %d (%+v)", why, d.Wrote(), want, c)
	}
	return want
}

// wantBroken turns a bit of the n-th block that is written.
func wantBroken(t *testing.T, why string, tables []api.Table, c api.Config, n, bit int) {
	t.Helper()
	d := bigDisk()
	d.Fault(3, n, bit)
	if _, e := ask(t, why, tables, []api.Node{scan("t"), sort(0, api.Key{Down: true})}, c, d); e != api.ErrBroken {
		t.Fatalf("P9: %s: bit %d of block %d was turned: %d (%+v)", why, bit, n, e, c)
	}
}

// orderly has so many rows of 25 bytes, from the first to the last by the key,
// or back, or neither.
func orderly(n, way int) []api.Table {
	table := api.Table{Name: "t", Kinds: []int{api.Int, api.Text}}
	for i := range n {
		at := []int{-i, i, i * 7919 % 1009}[way]
		table.Rows = append(table.Rows, row(at, "12345"))
	}
	return []api.Table{table}
}

func TestQuerySpills(t *testing.T) {
	for way := range 3 {
		for _, c := range []api.Config{least(64), {Block: 64, Fan: 16, Budget: 1000}, least(500), {Block: 500, Fan: 3, Budget: 2501}} {
			for _, volume := range []int{c.Budget - 24, c.Budget, c.Budget + c.Block - 1, c.Budget + c.Block, c.Budget + 2*c.Block, 20 * c.Budget} {
				n := (volume + 24) / 25
				wantSpilled(t, fmt.Sprint(n, " rows, way ", way), orderly(n, way), c)
			}
		}
	}
}

// TestAllOperationsSpill: what all of them take in and do not give at once is
// written, as far as it does not fit into the budget.
func TestAllOperationsSpill(t *testing.T) {
	tables, on := two(keyed(400, func(i int) any { return -i }), keyed(300, func(i int) any { return -i - 200 })), []int{0}
	left, right := volumeOf(tables[0].Rows), volumeOf(tables[1].Rows)
	for _, c := range []api.Config{least(64), {Block: 64, Fan: 16, Budget: 1000}, least(500)} {
		for _, x := range []struct {
			why    string
			plan   []api.Node
			volume int
		}{
			{"distinct", []api.Node{scan("t"), distinct(0)}, left},
			{"a group", []api.Node{scan("t"), group(0, on, sum(api.Count, 0))}, left},
			{"a join", sides(api.Join, on, on), left + right},
			{"an outer join", sides(api.Outer, on, on), left + right},
			{"distinct, and a group", []api.Node{scan("t"), distinct(0), group(1, []int{1})}, 2*left - c.Budget},
		} {
			d := bigDisk()
			_, e := ask(t, x.why, tables, x.plan, c, d)
			if want := (x.volume - c.Budget) / c.Block; e != api.OK || d.Wrote() < want {
				t.Errorf("P6: %s: %d, %d blocks were written, want %d (%+v)", x.why, e, d.Wrote(), want, c)
			}
		}
	}
}

func TestQueryNoticesEachBlock(t *testing.T) {
	r := rand.New(rand.NewSource(12))
	for way := range 3 {
		for _, c := range []api.Config{least(64), {Block: 64, Fan: 16, Budget: 1000}, {Block: 200, Fan: 3, Budget: 900}} {
			tables := orderly(200, way)
			blocks := wantSpilled(t, "200 rows", tables, c)
			if blocks < 10 {
				t.Fatalf("%d blocks are too few for this test", blocks)
			}
			for n := 1; n <= blocks; n++ {
				for _, bit := range []int{0, 63, 64, 127, 128, -1, r.Int(), -r.Int(), math.MinInt, math.MaxInt} {
					wantBroken(t, fmt.Sprint("way ", way), tables, c, n, bit)
				}
			}
		}
	}
}

// TestQueryNoticesEachBit: of a block that is full, and of the last one.
func TestQueryNoticesEachBit(t *testing.T) {
	tables := []api.Table{tableOf(rand.New(rand.NewSource(13)), []int{api.Int, api.Text}, 60, 48)}
	blocks := wantSpilled(t, "60 rows", tables, least(64))
	for _, n := range []int{1, 2, blocks} {
		for bit := range 8 * 64 {
			wantBroken(t, "each bit", tables, least(64), n, bit)
		}
	}
}
