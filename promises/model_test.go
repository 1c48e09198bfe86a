package promises

import (
	"fmt"
	"math/big"
	"slices"
	"testing"

	"spillway/api"
	"spillway/disk"
	"spillway/spillway"
)

// sizeOf is a row's size, said once more.
func sizeOf(r api.Row) int {
	size := 8
	for _, v := range r {
		size += []int{api.Null: 1, api.Int: 9, api.Text: 3 + len(v.S), api.Flag: 2}[v.Kind]
	}
	return size
}

func volumeOf(rows []api.Row) int {
	volume := 0
	for _, r := range rows {
		volume += sizeOf(r)
	}
	return volume
}

// modelResult is what a node gives: so many columns, all rows, and whether a
// total is no int.
type modelResult struct {
	cols     int
	rows     []api.Row
	overflow bool
}

// model answers a plan with all rows in memory: the answer, and how many
// blocks are room enough.
func model(tables []api.Table, plan []api.Node, c api.Config) ([]api.Row, api.Errno, int) {
	results, room := []modelResult{}, 0
	for _, n := range plan {
		result := modelNode(tables, n, results)
		many := len(result.rows) > api.MaxRows
		if many {
			result.rows = result.rows[:api.MaxRows+1]
		}
		payload := c.Block - 16
		room += 8 + (8*volumeOf(result.rows)+payload-1)/payload
		large := slices.ContainsFunc(result.rows, func(r api.Row) bool { return sizeOf(r) > payload })
		switch {
		case many:
			return nil, api.ErrMany, room
		case result.overflow:
			return nil, api.ErrOverflow, room
		case large:
			return nil, api.ErrRow, room
		}
		results = append(results, result)
	}
	return results[len(plan)-1].rows, api.OK, room
}

func modelNode(tables []api.Table, n api.Node, results []modelResult) modelResult {
	if n.Op == api.Scan {
		table := tables[slices.IndexFunc(tables, func(t api.Table) bool { return t.Name == n.Table })]
		return modelResult{cols: len(table.Kinds), rows: table.Rows}
	}
	left, right := results[n.Left], results[n.Right]
	switch n.Op {
	case api.Sort:
		return modelResult{cols: left.cols, rows: modelSort(left.rows, n.Keys)}
	case api.Top:
		rows := modelSort(left.rows, n.Keys)
		return modelResult{cols: left.cols, rows: rows[:min(n.Count, len(rows))]}
	case api.Distinct:
		return modelDistinct(left)
	case api.Group:
		return modelGroup(left, n)
	}
	return modelJoin(left, right, n)
}

func modelSort(rows []api.Row, keys []api.Key) []api.Row {
	rows = slices.Clone(rows)
	slices.SortStableFunc(rows, func(a, b api.Row) int { return compareByKeys(a, b, keys) })
	return rows
}

func keysOf(cols ...int) []api.Key {
	var keys []api.Key
	for _, col := range cols {
		keys = append(keys, api.Key{Col: col})
	}
	return keys
}

func modelDistinct(left modelResult) modelResult {
	var rows []api.Row
	seen := map[string]int{}
	for _, r := range left.rows {
		if text := fmt.Sprintf("%#v", r); seen[text] == 0 {
			seen[text]++
			rows = append(rows, r)
		}
	}
	cols := make([]int, left.cols)
	for col := range cols {
		cols[col] = col
	}
	return modelResult{cols: left.cols, rows: modelSort(rows, keysOf(cols...))}
}

// modelGroup finds the parts by their values' texts.
func modelGroup(left modelResult, n api.Node) modelResult {
	parts, names := map[string][]api.Row{}, []string{}
	if len(n.Cols) == 0 {
		parts[""], names = left.rows, []string{""}
	} else {
		for _, r := range modelSort(left.rows, keysOf(n.Cols...)) {
			name := fmt.Sprintf("%#v", picked(r, n.Cols))
			if parts[name] == nil {
				names = append(names, name)
			}
			parts[name] = append(parts[name], r)
		}
	}
	result := modelResult{cols: len(n.Cols) + len(n.Sums)}
	for _, name := range names {
		r := api.Row{}
		if len(n.Cols) > 0 {
			r = picked(parts[name][0], n.Cols)
		}
		for _, s := range n.Sums {
			v, overflow := modelSum(parts[name], s)
			r, result.overflow = append(r, v), result.overflow || overflow
		}
		result.rows = append(result.rows, r)
	}
	return result
}

func picked(r api.Row, cols []int) api.Row {
	out := api.Row{}
	for _, col := range cols {
		out = append(out, r[col])
	}
	return out
}

func modelSum(part []api.Row, s api.Sum) (api.Value, bool) {
	if s.Op == api.Count {
		return value(len(part)), false
	}
	var values []api.Row
	for _, r := range modelSort(part, keysOf(s.Col)) {
		if r[s.Col].Kind != api.Null {
			values = append(values, r)
		}
	}
	switch {
	case len(values) == 0:
		return value(nil), false
	case s.Op == api.Least:
		return values[0][s.Col], false
	case s.Op == api.Greatest:
		return values[len(values)-1][s.Col], false
	}
	sum := new(big.Int)
	for _, r := range values {
		sum.Add(sum, big.NewInt(int64(r[s.Col].N)))
	}
	return value(int(sum.Int64())), !sum.IsInt64()
}

// modelJoin holds each row against each other, until there are too many.
func modelJoin(left, right modelResult, n api.Node) modelResult {
	result := modelResult{cols: left.cols + right.cols}
	for _, l := range modelSort(left.rows, keysOf(n.Cols...)) {
		found := false
		for _, r := range right.rows {
			if modelMatches(l, r, n) {
				found = true
				result.rows = append(result.rows, slices.Concat(l, r))
			}
		}
		if !found && n.Op == api.Outer {
			result.rows = append(result.rows, slices.Concat(l, make(api.Row, right.cols)))
		}
		if len(result.rows) > api.MaxRows {
			break
		}
	}
	return result
}

func modelMatches(left, right api.Row, n api.Node) bool {
	for i, col := range n.Cols {
		if left[col].Kind == api.Null || left[col] != right[n.Others[i]] {
			return false
		}
	}
	return true
}

func sameRows(a, b []api.Row) bool {
	return slices.EqualFunc(a, b, func(x, y api.Row) bool { return slices.Equal(x, y) })
}

// ask is a query after which the disk has what it had ahead of it, and which
// gives no rows with an error.
func ask(t *testing.T, why string, tables []api.Table, plan []api.Node, c api.Config, d *disk.Disk) ([]api.Row, api.Errno) {
	t.Helper()
	used, files := d.Used(), d.Files()
	rows, e := spillway.Query(tables, plan, c, d)
	if d.Used() != used || d.Files() != files {
		t.Errorf("P8: %s: %d blocks and %d files, were %d and %d", why, d.Used(), d.Files(), used, files)
	}
	if e != api.OK && len(rows) > 0 {
		t.Errorf("P1: %s: error %d, and %d rows", why, e, len(rows))
	}
	return rows, e
}

func wantErrnoOf(t *testing.T, why string, tables []api.Table, plan []api.Node, c api.Config, want api.Errno) {
	t.Helper()
	if _, e := ask(t, why, tables, plan, c, bigDisk()); e != want {
		t.Errorf("P6: %s: %d, want %d (%+v)", why, e, want, c)
	}
}

// wantModel asks with just room enough, and with much more.
func wantModel(t *testing.T, why string, tables []api.Table, plan []api.Node, c api.Config) {
	t.Helper()
	rows, e, room := model(tables, plan, c)
	for _, d := range []*disk.Disk{disk.New(c.Block, room), bigDisk()} {
		got, gotErrno := ask(t, why, tables, plan, c, d)
		if gotErrno != e || !sameRows(got, rows) {
			t.Fatalf("P6: %s: %d rows, %d, want %d, %d (%+v, room %d)%s", why, len(got), gotErrno, len(rows), e, c, room, firstChange(got, rows))
		}
	}
}

func firstChange(got, want []api.Row) string {
	for i := range min(len(got), len(want)) {
		if !slices.Equal(got[i], want[i]) {
			return fmt.Sprintf(": row %d: %v, want %v", i, got[i], want[i])
		}
	}
	return ""
}

func bigDisk() *disk.Disk { return disk.New(api.MaxBlock, 1<<20) }

// least is the configuration with the least of all, at a block's size.
func least(block int) api.Config { return api.Config{Block: block, Fan: api.MinFan, Budget: 4 * block} }

// configs are some at the limits, and some between.
func configs() []api.Config {
	return []api.Config{
		least(api.MinBlock), least(100), least(1000), least(api.MaxBlock),
		{Block: 64, Fan: 16, Budget: 256}, {Block: 64, Fan: 16, Budget: 64 * 40}, {Block: 65, Fan: 3, Budget: 65*4 + 1},
		{Block: 128, Fan: 5, Budget: 128 * 7}, {Block: 4096, Fan: 16, Budget: 1 << 16}, {Block: 300, Fan: 2, Budget: 1<<63 - 1},
	}
}
