package promises

import (
	"fmt"
	"math"
	"math/rand"
	"testing"

	"spillway/api"
)

// mustWrite is how many blocks P9 asks for.
func mustWrite(rows []api.Row, c api.Config) int {
	return max(0, volumeOf(rows)-c.Budget) / c.Block
}

func wantSpilled(t *testing.T, why string, tables []api.Table, c api.Config) int {
	t.Helper()
	d := bigDisk()
	plan := []api.Node{scan("t"), sort(0, api.Key{Down: true})}
	if _, e := ask(t, why, tables, plan, c, d); e != api.OK {
		t.Fatalf("P6: %s: %d (%+v)", why, e, c)
	}
	want := mustWrite(tables[0].Rows, c)
	if d.Wrote() < want {
		t.Errorf("P9: %s: %d blocks were written, want %d (%+v)", why, d.Wrote(), want, c)
	}
	return want
}

// wantBroken turns a bit of the n-th block that is written.
func wantBroken(t *testing.T, why string, tables []api.Table, c api.Config, n, bit int) {
	t.Helper()
	d := bigDisk()
	d.Fault(3, n, bit)
	if _, e := ask(t, why, tables, []api.Node{scan("t"), sort(0, api.Key{Down: true})}, c, d); e != api.ErrBroken {
		t.Fatalf("P9: %s: bit %d of block %d was turned: %d (%+v)", why, bit, n, e, c)
	}
}

// orderly has so many rows of 25 bytes, from the first to the last by the key,
// or back, or neither.
func orderly(n, way int) []api.Table {
	table := api.Table{Name: "t", Kinds: []int{api.Int, api.Text}}
	for i := range n {
		at := []int{-i, i, i * 7919 % 1009}[way]
		table.Rows = append(table.Rows, row(at, "12345"))
	}
	return []api.Table{table}
}

func TestQuerySpills(t *testing.T) {
	for way := range 3 {
		for _, c := range []api.Config{least(64), {Block: 64, Fan: 16, Budget: 1000}, least(500), {Block: 500, Fan: 3, Budget: 2501}} {
			for _, volume := range []int{c.Budget - 24, c.Budget, c.Budget + c.Block - 1, c.Budget + c.Block, c.Budget + 2*c.Block, 20 * c.Budget} {
				n := (volume + 24) / 25
				wantSpilled(t, fmt.Sprint(n, " rows, way ", way), orderly(n, way), c)
			}
		}
	}
}

// TestAllOperationsSpill: what all of them take in and do not give at once is
// written, as far as it does not fit into the budget.
func TestAllOperationsSpill(t *testing.T) {
	tables, on := two(keyed(400, func(i int) any { return -i }), keyed(300, func(i int) any { return -i - 200 })), []int{0}
	left, right := volumeOf(tables[0].Rows), volumeOf(tables[1].Rows)
	for _, c := range []api.Config{least(64), {Block: 64, Fan: 16, Budget: 1000}, least(500)} {
		for _, x := range []struct {
			why    string
			plan   []api.Node
			volume int
		}{
			{"distinct", []api.Node{scan("t"), distinct(0)}, left},
			{"a group", []api.Node{scan("t"), group(0, on, sum(api.Count, 0))}, left},
			{"a join", sides(api.Join, on, on), left + right},
			{"an outer join", sides(api.Outer, on, on), left + right},
			{"distinct, and a group", []api.Node{scan("t"), distinct(0), group(1, []int{1})}, 2*left - c.Budget},
		} {
			d := bigDisk()
			_, e := ask(t, x.why, tables, x.plan, c, d)
			if want := (x.volume - c.Budget) / c.Block; e != api.OK || d.Wrote() < want {
				t.Errorf("P6: %s: %d, %d blocks were written, want %d (%+v)", x.why, e, d.Wrote(), want, c)
			}
		}
	}
}

func TestQueryNoticesEachBlock(t *testing.T) {
	r := rand.New(rand.NewSource(12))
	for way := range 3 {
		for _, c := range []api.Config{least(64), {Block: 64, Fan: 16, Budget: 1000}, {Block: 200, Fan: 3, Budget: 900}} {
			tables := orderly(200, way)
			blocks := wantSpilled(t, "200 rows", tables, c)
			if blocks < 10 {
				t.Fatalf("%d blocks are too few for this test", blocks)
			}
			for n := 1; n <= blocks; n++ {
				for _, bit := range []int{0, 63, 64, 127, 128, -1, r.Int(), -r.Int(), math.MinInt, math.MaxInt} {
					wantBroken(t, fmt.Sprint("way ", way), tables, c, n, bit)
				}
			}
		}
	}
}

// TestQueryNoticesEachBit: of a block that is full, and of the last one.
func TestQueryNoticesEachBit(t *testing.T) {
	tables := []api.Table{tableOf(rand.New(rand.NewSource(13)), []int{api.Int, api.Text}, 60, 48)}
	blocks := wantSpilled(t, "60 rows", tables, least(64))
	for _, n := range []int{1, 2, blocks} {
		for bit := range 8 * 64 {
			wantBroken(t, "each bit", tables, least(64), n, bit)
		}
	}
}
