package promises

import (
	"math/rand"
	"testing"

	"spillway/api"
)

// wantSameByAll asks with each configuration: those that give rows must give
// the same ones. It tells how many did.
func wantSameByAll(t *testing.T, tables []api.Table, plan []api.Node) int {
	t.Helper()
	var first []api.Row
	gave := 0
	for _, c := range configs() {
		rows, e := ask(t, "each configuration", tables, plan, c, bigDisk())
		if e != api.OK {
			continue
		}
		if gave > 0 && !sameRows(first, rows) {
			t.Errorf("P10: %+v: %d rows, were %d%s", c, len(rows), len(first), firstChange(rows, first))
		}
		first = rows
		gave++
	}
	return gave
}

func TestQueryHangsOnNoConfiguration(t *testing.T) {
	r := rand.New(rand.NewSource(10))
	for range 20 {
		kinds := randomKinds(r)
		tables := []api.Table{tableOf(r, kinds, 500, 48)}
		if gave := wantSameByAll(t, tables, randomChain(r, len(kinds))); gave != len(configs()) {
			t.Errorf("P10: %d configurations gave rows", gave)
		}
	}
}

func TestTreesHangOnNoConfiguration(t *testing.T) {
	r := rand.New(rand.NewSource(23))
	all := 0
	for range 200 {
		tables := randomTables(r, 100, 48)
		if wantSameByAll(t, tables, randomTree(r, tables)) == len(configs()) {
			all++
		}
	}
	if all < 100 {
		t.Errorf("all configurations gave rows %d times", all)
	}
}

// TestJoinsHangOnNoConfiguration: many rows of few keys, of which some sides
// fit into memory, and others do not.
func TestJoinsHangOnNoConfiguration(t *testing.T) {
	on := []int{0}
	for _, keys := range []int{1, 3, 50} {
		tables := two(keyed(130, func(i int) any { return i * 7 % keys }), keyed(140, func(i int) any { return i * 11 % keys }))
		for _, plan := range [][]api.Node{
			sides(api.Join, on, on), sides(api.Outer, on, on), append(sides(api.Join, on, on), distinct(2)),
			append(sides(api.Join, on, on), group(2, []int{1}, sum(api.Count, 0), sum(api.Total, 3))),
		} {
			if gave := wantSameByAll(t, tables, plan); gave != len(configs()) {
				t.Errorf("P10: %d configurations gave rows", gave)
			}
		}
	}
}
