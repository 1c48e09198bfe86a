package promises

import (
	"fmt"
	"math/rand"
	"testing"

	"spillway/api"
	"spillway/disk"
)

// usedDisk has files of others, which a query must leave alone, and so many
// free blocks.
func usedDisk(block, free int) *disk.Disk {
	d := disk.New(block, free+3)
	for _, texts := range [][]string{{"a", "b"}, {}, {"c"}} {
		file := d.Create()
		for _, text := range texts {
			d.Append(file, text)
		}
	}
	return d
}

// wantOthersKept takes all faults back, as it reads.
func wantOthersKept(t *testing.T, why string, d *disk.Disk) {
	t.Helper()
	for kind := range 4 {
		d.Fault(kind, 0, 0)
	}
	for at, want := range map[[2]int]string{{1, 0}: "a", {1, 1}: "b", {3, 0}: "c"} {
		if got, e := d.Read(at[0], at[1]); got != want || e != api.OK {
			t.Errorf("P8: %s: block %d of file %d is %q, %d", why, at[1], at[0], got, e)
		}
	}
	if _, e := d.Read(2, 0); e != api.ErrBlock || d.Used() != 3 || d.Files() != 3 {
		t.Errorf("P8: %s: %d blocks and %d files", why, d.Used(), d.Files())
	}
}

// fault is one of P3's.
type fault struct{ kind, n, bit int }

const (
	failedAppend = 1 + iota
	failedRead
	turnedBit
)

// came tells whether a fault came in a query that wrote so many blocks. The
// disk counts what it refuses too: so one that has not come yet comes now.
func (f fault) came(d *disk.Disk, wrote int) bool {
	for range f.n {
		switch f.kind {
		case failedAppend:
			if d.Append(-1, "") == api.ErrFail {
				return false
			}
		case failedRead:
			if _, e := d.Read(-1, 0); e == api.ErrFail {
				return false
			}
		}
	}
	return f.kind != turnedBit || wrote >= f.n
}

// error is what a fault that came may be answered by.
func (f fault) error() api.Errno {
	if f.kind == turnedBit {
		return api.ErrBroken
	}
	return api.ErrFail
}

// trial is a query that is asked on disks where something goes wrong: what P6
// says of it, how many blocks are room enough, and how often it writes and
// reads if nothing goes wrong.
type trial struct {
	why    string
	tables []api.Table
	plan   []api.Node
	c      api.Config

	rows           []api.Row
	e              api.Errno
	room           int
	appends, reads int
}

func trialOf(t *testing.T, why string, tables []api.Table, plan []api.Node, c api.Config) trial {
	t.Helper()
	x := trial{why: why, tables: tables, plan: plan, c: c}
	x.rows, x.e, x.room = model(tables, plan, c)
	d, late := usedDisk(c.Block, x.room), 1<<20
	d.Fault(failedRead, late, 0)
	wrote := d.Wrote()
	x.wantP6(t, "no fault", d)
	x.appends = d.Wrote() - wrote
	for x.reads = late - 1; x.reads > 0; x.reads-- {
		if _, e := d.Read(-1, 0); e == api.ErrFail {
			break
		}
	}
	return x
}

// places is how many places there are where a kind of fault can come.
func (x trial) places(kind int) int {
	if kind == failedRead {
		return x.reads
	}
	return x.appends
}

// wantP6 asks on a disk of which nothing is wrong.
func (x trial) wantP6(t *testing.T, why string, d *disk.Disk) {
	t.Helper()
	if rows, e := ask(t, x.why+": "+why, x.tables, x.plan, x.c, d); e != x.e || !sameRows(rows, x.rows) {
		t.Fatalf("P7: %s: %s: %d rows, %d, want %d, %d%s", x.why, why, len(rows), e, len(x.rows), x.e, firstChange(rows, x.rows))
	}
}

// wantP7 asks on a disk with so many free blocks, beside those of others, and
// with some faults: what P6 says may come, or the error of a fault that came.
// Nothing is left of the query then.
func (x trial) wantP7(t *testing.T, free int, faults ...fault) (api.Errno, *disk.Disk) {
	t.Helper()
	why := fmt.Sprint(x.why, ": ", free, " free blocks, faults ", faults)
	d := usedDisk(x.c.Block, free)
	wrote := d.Wrote()
	for _, f := range faults {
		d.Fault(f.kind, f.n, f.bit)
	}
	rows, e := ask(t, why, x.tables, x.plan, x.c, d)
	may := e == x.e && sameRows(rows, x.rows) || e == api.ErrFull && free < x.room
	for _, f := range faults {
		may = may || e == f.error() && f.came(d, d.Wrote()-wrote)
	}
	if !may {
		t.Fatalf("P7: %s: %d rows, %d, want %d, %d%s", why, len(rows), e, len(x.rows), x.e, firstChange(rows, x.rows))
	}
	wantOthersKept(t, why, d)
	return e, d
}

// wantP7Twice asks once more on the same disk, which has just room enough, but
// no faults then: so nothing of the first query may be in the way.
func (x trial) wantP7Twice(t *testing.T, faults ...fault) api.Errno {
	t.Helper()
	e, d := x.wantP7(t, x.room, faults...)
	x.wantP6(t, "the next one", d)
	wantOthersKept(t, x.why+": the next one", d)
	return e
}

// spilling has plans that write runs, and merge them, at the least budget of
// blocks of 64 bytes. All of them scan the table "t" first.
func spilling() ([]api.Table, [][]api.Node) {
	r := rand.New(rand.NewSource(11))
	other := tableOf(r, []int{api.Int, api.Int}, 60, 26)
	other.Name = "u"
	tables := []api.Table{tableOf(r, []int{api.Int, api.Text, api.Flag}, 90, 48), other}
	down, on := api.Key{Down: true}, []int{0}
	return tables, [][]api.Node{
		{scan("t"), sort(0, api.Key{})},
		{scan("t"), top(0, 20, api.Key{Col: 1})},
		{scan("t"), sort(0, api.Key{Col: 1}), sort(1, down), top(2, 60, api.Key{Col: 2})},
		{scan("t"), distinct(0)},
		{scan("t"), group(0, []int{1, 0}), group(1, []int{1}, sum(api.Greatest, 0))},
		{scan("t"), group(0, []int{0, 2}), scan("u"), join(api.Join, 1, 2, on, on)},
		{scan("t"), group(0, []int{0, 2}), scan("u"), sort(2, down), join(api.Outer, 3, 1, on, on), distinct(4), group(5, []int{1}, sum(api.Count, 0))},
	}
}

// joining has plans of several joins, whose sides and results do not fit into
// the least budget of blocks of 64 bytes: joins of joins on the left, on the
// right, and on both sides, with the other operations between them.
func joining() ([]api.Table, [][]api.Node) {
	var tables []api.Table
	for i, name := range []string{"t", "u", "v"} {
		table := api.Table{Name: name, Kinds: ints(2), Rows: keyed(24+i, func(k int) any { return k * 5 % (9 + i) })}
		table.Rows[7+i] = row(nil, i)
		tables = append(tables, table)
	}
	on, second := []int{0}, []int{1}
	return tables, [][]api.Node{
		{scan("t"), group(0, on), scan("u"), join(api.Join, 2, 1, on, on), scan("v"), group(4, second), join(api.Outer, 3, 5, on, on), sort(6, api.Key{Col: 1, Down: true})},
		{scan("t"), scan("u"), group(1, on, sum(api.Total, 1)), scan("v"), group(3, on), join(api.Outer, 2, 4, on, on), group(5, on, sum(api.Count, 0)), join(api.Join, 0, 6, on, on)},
		{scan("t"), group(0, on), scan("u"), group(2, on), scan("v"), scan("t"), group(5, on), join(api.Outer, 1, 3, on, on), join(api.Join, 4, 6, on, on), group(8, on), join(api.Outer, 9, 7, on, on), distinct(10)},
		{scan("t"), sort(0, api.Key{Col: 1}), scan("v"), top(2, 20, api.Key{Down: true}), distinct(3), join(api.Join, 1, 4, on, on), group(5, []int{1, 3}), scan("u"), join(api.Outer, 7, 6, second, second), top(8, 30, api.Key{Col: 3, Last: true})},
	}
}

// trials are all of these at the least budget, and some with larger blocks and
// a wider fan.
func trials(t *testing.T) []trial {
	t.Helper()
	var list []trial
	for i, plansOf := range []func() ([]api.Table, [][]api.Node){spilling, joining} {
		name := []string{"spilling", "joining"}[i]
		tables, plans := plansOf()
		for k, plan := range plans {
			list = append(list, trialOf(t, fmt.Sprint(name, " ", k), tables, plan, least(64)))
		}
		wide := api.Config{Block: 101, Fan: 3, Budget: 700}
		list = append(list, trialOf(t, name+" in larger blocks", tables, plans[len(plans)-1], wide))
	}
	return list
}
