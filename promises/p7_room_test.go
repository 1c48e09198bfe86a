package promises

import (
	"fmt"
	"math/rand"
	"testing"

	"spillway/api"
	"spillway/disk"
)

// need is the least number of free blocks with which a query is answered as P6
// says.
func (x trial) need(t *testing.T) int {
	t.Helper()
	need := 0
	for e := api.ErrFull; e == api.ErrFull; need++ {
		e, _ = x.wantP7(t, need)
	}
	return need - 1
}

// TestNumbersOfFreeBlocks: from none, over one less than are needed, to as many
// as are enough.
func TestNumbersOfFreeBlocks(t *testing.T) {
	t.Parallel()
	for _, x := range trials(t) {
		need := x.need(t)
		if need < 20 || need > x.room {
			t.Errorf("P7: %s: %d blocks are needed, %d are enough", x.why, need, x.room)
		}
		for free := need; free < x.room; free += 1 + x.room/50 {
			x.wantP7(t, free)
		}
		for _, free := range []int{x.room, x.room + 1, 2 * x.room} {
			if e, _ := x.wantP7(t, free); e != api.OK {
				t.Errorf("P7: %s: %d free blocks, of which %d are enough: %d", x.why, free, x.room, e)
			}
		}
		if e, d := x.wantP7(t, need-1); e != api.ErrFull || d.Used() != 3 {
			t.Errorf("P7: %s: one block less than are needed: %d", x.why, e)
		}
	}
}

// TestDisksThatGrowFull: others have all blocks of the disk, or all but one,
// or all but just enough.
func TestDisksThatGrowFull(t *testing.T) {
	t.Parallel()
	for _, x := range trials(t) {
		for _, free := range []int{0, 1, x.room} {
			d := disk.New(x.c.Block+9, x.room+50)
			file := d.Create()
			for d.Used() < x.room+50-free {
				d.Append(file, fmt.Sprint("other ", d.Used()))
			}
			rows, e := ask(t, x.why, x.tables, x.plan, x.c, d)
			if (e != api.ErrFull || free == x.room) && (e != api.OK || !sameRows(rows, x.rows)) {
				t.Errorf("P7: %s: %d free blocks: %d rows, %d", x.why, free, len(rows), e)
			}
			for n := range x.room + 50 - free {
				wantBlock(t, d, file, n, fmt.Sprint("other ", n), api.OK)
			}
			d.Delete(file)
			x.wantP6(t, "others have gone", d)
		}
	}
}

// TestSmallQueriesOnADiskWithNoBlock: nothing may come but the rows, or
// ErrFull; and what writes nothing needs no room.
func TestSmallQueriesOnADiskWithNoBlock(t *testing.T) {
	on := []int{0}
	for _, blocks := range []int{0, 1} {
		for _, plan := range [][]api.Node{
			{scan("t")}, {scan("t"), sort(0, api.Key{})}, {scan("t"), top(0, 2, api.Key{Down: true})}, {scan("t"), distinct(0)}, {scan("t"), group(0, on, sum(api.Count, 0))},
			{scan("t"), scan("t"), join(api.Join, 0, 1, on, on)}, {scan("t"), scan("t"), join(api.Outer, 0, 1, on, on), distinct(2), scan("t"), join(api.Join, 3, 4, on, on)},
		} {
			for _, c := range []api.Config{least(100), {Block: 100, Fan: 16, Budget: 1 << 20}} {
				want, _, _ := model(documentTables(), plan, c)
				rows, e := ask(t, "a small query", documentTables(), plan, c, disk.New(100, blocks))
				if e != api.ErrFull && (e != api.OK || !sameRows(rows, want)) {
					t.Errorf("P7: %d blocks: %d rows, %d", blocks, len(rows), e)
				}
			}
		}
		d := disk.New(100, blocks)
		if rows, e := ask(t, "a scan", documentTables(), []api.Node{scan("t")}, least(100), d); e != api.OK || !sameRows(rows, documentTables()[0].Rows) {
			t.Errorf("P7: a scan, with %d blocks: %d rows, %d", blocks, len(rows), e)
		}
	}
}

// TestRoomOfRandomTrees: just room enough, beside files of others, whatever
// the answer is; with less of it the same, or ErrFull.
func TestRoomOfRandomTrees(t *testing.T) {
	t.Parallel()
	r := rand.New(rand.NewSource(32))
	full := 0
	for range 400 {
		c := randomConfig(r)
		tables := randomTables(r, []int{5, 30, 60, 200}[r.Intn(4)], min(c.Block-16, 200))
		x := trialOf(t, "a random tree", tables, randomTree(r, tables), c)
		for range 4 {
			if e, _ := x.wantP7(t, r.Intn(min(x.appends+1, x.room))); e == api.ErrFull {
				full++
			}
		}
	}
	if full < 100 {
		t.Errorf("P7: the disk was full %d times", full)
	}
}

// TestRoomOfWideRows: rows of which one alone fits into a block, as there is
// no room for half of the next: in sorters, in joins, and where they wait.
func TestRoomOfWideRows(t *testing.T) {
	t.Parallel()
	on := []int{0}
	for _, block := range []int{64, 65, 90} {
		size := (block-16)/2 + 1
		long := func(i, n int) any { return fmt.Sprintf("%0*d", n, i) }
		var tables []api.Table
		for i, name := range []string{"t", "u"} {
			table := api.Table{Name: name, Kinds: []int{api.Text}}
			for k := range 150 {
				table.Rows = append(table.Rows, row(long((150-k)*(1+i), size-11)))
			}
			tables = append(tables, table)
		}
		for _, plan := range [][]api.Node{
			{scan("t"), sort(0, api.Key{})}, {scan("t"), top(0, 149, api.Key{})}, {scan("t"), distinct(0)}, {scan("t"), group(0, on)},
			{scan("t"), scan("u"), join(api.Join, 0, 1, on, on)}, {scan("t"), scan("u"), join(api.Outer, 1, 0, on, on), sort(2, api.Key{Down: true})},
			{scan("t"), distinct(0), scan("u"), group(2, on), group(1, on), sort(3, api.Key{Down: true}), sort(4, api.Key{}), distinct(5), join(api.Outer, 6, 7, on, on)},
		} {
			for _, c := range []api.Config{least(block), {Block: block, Fan: 16, Budget: 9 * block}} {
				wantModel(t, fmt.Sprint("rows of ", size, " in blocks of ", block), tables, plan, c)
			}
		}
	}
}
