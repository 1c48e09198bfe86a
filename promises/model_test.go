package promises

import (
	"fmt"
	"math/rand"
	"slices"
	"strings"
	"testing"

	"spillway/api"
	"spillway/disk"
	"spillway/spillway"
)

// sizeOf is a row's size, said once more.
func sizeOf(r api.Row) int {
	size := 8
	for _, v := range r {
		size += []int{api.Null: 1, api.Int: 9, api.Text: 3 + len(v.S), api.Flag: 2}[v.Kind]
	}
	return size
}

func volumeOf(rows []api.Row) int {
	volume := 0
	for _, r := range rows {
		volume += sizeOf(r)
	}
	return volume
}

// model answers a plan with all rows in memory: the answer, and how many
// blocks are room enough.
func model(tables []api.Table, plan []api.Node, c api.Config) ([]api.Row, api.Errno, int) {
	results, room := [][]api.Row{}, 0
	for _, n := range plan {
		rows := modelNode(tables, n, results)
		many := len(rows) > api.MaxRows
		if many {
			rows = rows[:api.MaxRows+1]
		}
		payload := c.Block - 16
		room += 8 + (8*volumeOf(rows)+payload-1)/payload
		large := slices.ContainsFunc(rows, func(r api.Row) bool { return sizeOf(r) > payload })
		switch {
		case many:
			return nil, api.ErrMany, room
		case large:
			return nil, api.ErrRow, room
		}
		results = append(results, rows)
	}
	return results[len(plan)-1], api.OK, room
}

func modelNode(tables []api.Table, n api.Node, results [][]api.Row) []api.Row {
	switch n.Op {
	case api.Scan:
		return tables[slices.IndexFunc(tables, func(t api.Table) bool { return t.Name == n.Table })].Rows
	case api.Sort:
		return modelSort(results[n.Left], n.Keys)
	case api.Top:
		rows := modelSort(results[n.Left], n.Keys)
		return rows[:min(n.Count, len(rows))]
	}
	panic("no such operation")
}

func modelSort(rows []api.Row, keys []api.Key) []api.Row {
	rows = slices.Clone(rows)
	slices.SortStableFunc(rows, func(a, b api.Row) int { return compareByKeys(a, b, keys) })
	return rows
}

func sameRows(a, b []api.Row) bool {
	return slices.EqualFunc(a, b, func(x, y api.Row) bool { return slices.Equal(x, y) })
}

// ask is a query after which the disk has what it had ahead of it, and which
// gives no rows with an error.
func ask(t *testing.T, why string, tables []api.Table, plan []api.Node, c api.Config, d *disk.Disk) ([]api.Row, api.Errno) {
	t.Helper()
	used, files := d.Used(), d.Files()
	rows, e := spillway.Query(tables, plan, c, d)
	if d.Used() != used || d.Files() != files {
		t.Errorf("P8: %s: %d blocks and %d files, were %d and %d", why, d.Used(), d.Files(), used, files)
	}
	if e != api.OK && len(rows) > 0 {
		t.Errorf("P1: %s: error %d, and %d rows", why, e, len(rows))
	}
	return rows, e
}

func wantErrnoOf(t *testing.T, why string, tables []api.Table, plan []api.Node, c api.Config, want api.Errno) {
	t.Helper()
	if _, e := ask(t, why, tables, plan, c, bigDisk()); e != want {
		t.Errorf("P6: %s: %d, want %d (%+v)", why, e, want, c)
	}
}

// wantModel asks with just room enough, and with much more.
func wantModel(t *testing.T, why string, tables []api.Table, plan []api.Node, c api.Config) {
	t.Helper()
	rows, e, room := model(tables, plan, c)
	for _, d := range []*disk.Disk{disk.New(c.Block, room), bigDisk()} {
		got, gotErrno := ask(t, why, tables, plan, c, d)
		if gotErrno != e || !sameRows(got, rows) {
			t.Fatalf("P6: %s: %d rows, %d, want %d, %d (%+v, room %d)%s", why, len(got), gotErrno, len(rows), e, c, room, firstChange(got, rows))
		}
	}
}

func firstChange(got, want []api.Row) string {
	for i := range min(len(got), len(want)) {
		if !slices.Equal(got[i], want[i]) {
			return fmt.Sprintf(": row %d: %v, want %v", i, got[i], want[i])
		}
	}
	return ""
}

func bigDisk() *disk.Disk { return disk.New(api.MaxBlock, 1<<20) }

// least is the configuration with the least of all, at a block's size.
func least(block int) api.Config { return api.Config{Block: block, Fan: api.MinFan, Budget: 4 * block} }

// configs are some at the limits, and some between.
func configs() []api.Config {
	return []api.Config{
		least(api.MinBlock), least(100), least(1000), least(api.MaxBlock),
		{Block: 64, Fan: 16, Budget: 256}, {Block: 64, Fan: 16, Budget: 64 * 40}, {Block: 65, Fan: 3, Budget: 65*4 + 1},
		{Block: 128, Fan: 5, Budget: 128 * 7}, {Block: 4096, Fan: 16, Budget: 1 << 16}, {Block: 300, Fan: 2, Budget: 1<<63 - 1},
	}
}

// tableOf is a table "t" of so many random rows, each of at most so many bytes.
func tableOf(r *rand.Rand, kinds []int, rows, most int) api.Table {
	table := api.Table{Name: "t", Kinds: kinds}
	for range rows {
		table.Rows = append(table.Rows, randomRow(r, kinds, most))
	}
	return table
}

func randomRow(r *rand.Rand, kinds []int, most int) api.Row {
	out := make(api.Row, len(kinds))
	spare := most - 8 - len(kinds)
	for _, col := range r.Perm(len(kinds)) {
		v := randomValue(r, kinds[col], spare)
		out[col] = v
		spare -= sizeOf(api.Row{v}) - 9
	}
	return out
}

func randomValue(r *rand.Rand, kind, spare int) api.Value {
	switch {
	case r.Intn(6) == 0:
	case kind == api.Int && spare >= 8 && r.Intn(3) == 0:
		return value(edgeInts()[r.Intn(len(edgeInts()))])
	case kind == api.Int && spare >= 8:
		return value(r.Intn(9) - 4)
	case kind == api.Text && spare >= 2:
		long := r.Intn(min(spare-2, api.MaxText) + 1)
		return value(strings.Repeat(string([]byte{byte(r.Intn(4))}), r.Intn(long+1)))
	case kind == api.Flag && spare >= 1:
		return value(r.Intn(2) == 1)
	}
	return value(nil)
}

func randomKinds(r *rand.Rand) []int {
	kinds := make([]int, 1+r.Intn(api.MaxCols))
	for i := range kinds {
		kinds[i] = api.Int + r.Intn(3)
	}
	return kinds
}

func randomKeys(r *rand.Rand, cols int) []api.Key {
	keys := make([]api.Key, 1+r.Intn(api.MaxKeys))
	for i := range keys {
		keys[i] = api.Key{Col: r.Intn(cols), Down: r.Intn(2) == 0, Last: r.Intn(2) == 0}
	}
	return keys
}

// randomChain is a scan, and some sorts and tops over it.
func randomChain(r *rand.Rand, cols int) []api.Node {
	plan := []api.Node{scan("t")}
	for range r.Intn(api.MaxDeep) {
		if left := len(plan) - 1; r.Intn(3) == 0 {
			plan = append(plan, top(left, r.Intn(api.MaxTop+1), randomKeys(r, cols)...))
		} else {
			plan = append(plan, sort(left, randomKeys(r, cols)...))
		}
	}
	return plan
}

func randomConfig(r *rand.Rand) api.Config {
	block := api.MinBlock + r.Intn(api.MaxBlock-api.MinBlock+1)
	if r.Intn(2) == 0 {
		block = api.MinBlock + r.Intn(100)
	}
	budget := 4 * block
	if r.Intn(2) == 0 {
		budget += r.Intn(20 * block)
	}
	return api.Config{Block: block, Fan: api.MinFan + r.Intn(api.MaxFan-api.MinFan+1), Budget: budget}
}
