package promises

import (
	"math/rand"
	"reflect"
	"strings"
	"sync"
	"testing"

	"spillway/api"
	"spillway/spillway"
)

// roomy is a list with spare room, and the whole of its room, which is filled.
func roomy[T any](list []T, filler T) ([]T, []T) {
	whole := append([]T{}, list...)
	for range 16 {
		whole = append(whole, filler)
	}
	return whole[:len(list)], whole
}

// watch keeps lists with their spare room, and what they held at first.
type watch struct{ now, before []any }

func (w *watch) add(whole any) { w.now = append(w.now, whole) }

// A list of lists is copied with what stands in the inner ones, so that a
// change there is seen as well.
func (w *watch) start() {
	for _, whole := range w.now {
		w.before = append(w.before, deepCopy(reflect.ValueOf(whole)).Interface())
	}
}

func (w *watch) check(t *testing.T, why string) {
	t.Helper()
	for i := range w.now {
		if !reflect.DeepEqual(w.now[i], w.before[i]) {
			t.Errorf("P1: %s: a list that was handed in has changed: %v, was %v", why, w.now[i], w.before[i])
		}
	}
}

func deepCopy(v reflect.Value) reflect.Value {
	c := reflect.New(v.Type()).Elem()
	switch {
	case v.Kind() == reflect.Slice && !v.IsNil():
		c.Set(reflect.MakeSlice(v.Type(), v.Len(), v.Len()))
		for i := range v.Len() {
			c.Index(i).Set(deepCopy(v.Index(i)))
		}
	case v.Kind() == reflect.Struct:
		for i := range v.NumField() {
			c.Field(i).Set(deepCopy(v.Field(i)))
		}
	default:
		c.Set(v)
	}
	return c
}

func watchTables(w *watch, tables []api.Table) []api.Table {
	filler := value("spare")
	out := []api.Table{}
	for _, table := range tables {
		var kinds []int
		var rows, wholeRows []api.Row
		table.Kinds, kinds = roomy(table.Kinds, 77)
		for _, r := range table.Rows {
			r, whole := roomy(r, filler)
			w.add(whole)
			rows = append(rows, r)
		}
		table.Rows, wholeRows = roomy(rows, api.Row{filler})
		w.add(kinds)
		w.add(wholeRows)
		out = append(out, table)
	}
	out, whole := roomy(out, api.Table{Name: "spare", Kinds: []int{77}})
	w.add(whole)
	return out
}

func watchPlan(w *watch, plan []api.Node) []api.Node {
	out := []api.Node{}
	for _, n := range plan {
		var keys []api.Key
		var cols, others []int
		var sums []api.Sum
		n.Keys, keys = roomy(n.Keys, api.Key{Col: 77})
		n.Cols, cols = roomy(n.Cols, 77)
		n.Others, others = roomy(n.Others, 77)
		n.Sums, sums = roomy(n.Sums, api.Sum{Op: 77})
		w.add(keys)
		w.add(cols)
		w.add(others)
		w.add(sums)
		out = append(out, n)
	}
	out, whole := roomy(out, api.Node{Op: 77})
	w.add(whole)
	return out
}

// widePlan has each operation once or more.
func widePlan() []api.Node {
	on := []int{0}
	return []api.Node{
		scan("t"), scan("t"), join(api.Join, 0, 1, []int{0, 1}, []int{0, 1}),
		scan("one"), sort(3, api.Key{Down: true}), join(api.Outer, 2, 4, on, on),
		top(5, 9, api.Key{Col: 6}, api.Key{Last: true}), distinct(6),
		group(7, []int{1, 0}, api.Sum{Op: api.Total, Col: 6}, api.Sum{Op: api.Least, Col: 2}),
	}
}

func TestValidLeavesListsAlone(t *testing.T) {
	broken := append(widePlan(), distinct(99))
	for _, plan := range [][]api.Node{widePlan(), broken, nil} {
		var w watch
		tables, plan := watchTables(&w, exampleTables()), watchPlan(&w, plan)
		w.start()
		first := spillway.Valid(tables, plan)
		w.check(t, "Valid")
		if again := spillway.Valid(tables, plan); again != first {
			t.Errorf("P1: Valid: %d, then %d", first, again)
		}
	}
	wantValid(t, "each operation", true, widePlan()...)
}

func TestEncodeLeavesListsAlone(t *testing.T) {
	r, wholeRow := roomy(row(1, "a\x00b", true, nil), value("spare"))
	for _, key := range append(allKeys(0), allKeys(1)...) {
		keys, wholeKeys := roomy([]api.Key{key, {Col: 2, Down: true}, {Col: 3, Last: true}}, api.Key{Col: 77})
		var w watch
		w.add(wholeRow)
		w.add(wholeKeys)
		w.start()
		first := spillway.Encode(r, keys)
		w.check(t, "Encode")
		if again := spillway.Encode(r, keys); again != first {
			t.Errorf("P1: Encode: %x, then %x", first, again)
		}
	}
}

// emptied puts empty lists in the place of nil ones.
func emptied(plan []api.Node) []api.Node {
	out := []api.Node{}
	for _, n := range plan {
		n.Keys = append([]api.Key{}, n.Keys...)
		n.Cols = append([]int{}, n.Cols...)
		n.Others = append([]int{}, n.Others...)
		n.Sums = append([]api.Sum{}, n.Sums...)
		out = append(out, n)
	}
	return out
}

func TestNilIsAsGoodAsEmpty(t *testing.T) {
	tables := exampleTables()
	for i := range tables {
		tables[i].Rows = append([]api.Row{}, tables[i].Rows...)
	}
	wantValidFor(t, "each operation, with empty lists", true, tables, emptied(widePlan()))
	wantValidFor(t, "a sort without keys", false, tables, []api.Node{scan("t"), {Op: api.Sort, Keys: []api.Key{}}})
	wantValidFor(t, "a join without columns", false, tables, []api.Node{scan("t"), scan("t"), join(api.Join, 0, 1, []int{}, []int{})})
	wantValidFor(t, "a group of nothing", false, tables, []api.Node{scan("t"), {Op: api.Group, Cols: []int{}, Sums: []api.Sum{}}})
	wantValidFor(t, "a table without columns", false, []api.Table{{Name: "t", Kinds: []int{}}}, []api.Node{scan("t")})
	wantValidFor(t, "empty tables", false, []api.Table{}, []api.Node{scan("t")})
	for _, r := range []api.Row{nil, {}, row(1)} {
		for _, keys := range [][]api.Key{nil, {}} {
			if got := spillway.Encode(r, keys); got != "" {
				t.Errorf("P1: Encode by no keys: %x", got)
			}
		}
	}
}

// hostile picks numbers, texts and lists that nobody would hand in on purpose.
type hostile struct {
	*rand.Rand
	ints []int
}

func (h hostile) int() int { return h.ints[h.Intn(len(h.ints))] }

// near is more often a number that may be a place or a kind.
func (h hostile) near() int {
	if h.Intn(8) == 0 {
		return h.int()
	}
	return h.Intn(5)
}

func (h hostile) list() []int {
	var l []int
	for range h.Intn(6) {
		l = append(l, h.near())
	}
	return l
}

func (h hostile) row() api.Row {
	var r api.Row
	for range h.Intn(4) {
		r = append(r, api.Value{Kind: h.near(), N: h.int(), S: strings.Repeat("\x00", h.Intn(300))})
	}
	return r
}

func (h hostile) keys() []api.Key {
	var keys []api.Key
	for range h.Intn(6) {
		keys = append(keys, api.Key{Col: h.near(), Down: h.Intn(2) == 0, Last: h.Intn(2) == 0})
	}
	return keys
}

func (h hostile) table() api.Table {
	table := api.Table{Name: []string{"", "t", "u"}[h.Intn(3)], Kinds: h.list()}
	for range h.Intn(3) {
		table.Rows = append(table.Rows, h.row())
	}
	return table
}

func (h hostile) node() api.Node {
	n := api.Node{Op: h.Intn(9), Left: h.near(), Right: h.near(), Table: []string{"", "t", "u"}[h.Intn(3)], Keys: h.keys(), Count: h.near(), Cols: h.list(), Others: h.list()}
	for range h.Intn(6) {
		n.Sums = append(n.Sums, api.Sum{Op: h.near(), Col: h.near()})
	}
	return n
}

// lean keeps of a node what its operation has, so that more than its fields is looked at.
func lean(n api.Node) api.Node {
	switch n.Op {
	case api.Scan:
		return scan(n.Table)
	case api.Sort:
		return sort(n.Left, n.Keys...)
	case api.Top:
		return top(n.Left, n.Count, n.Keys...)
	case api.Join, api.Outer:
		return join(n.Op, n.Left, n.Right, n.Cols, n.Others)
	case api.Distinct:
		return distinct(n.Left)
	case api.Group:
		return group(n.Left, n.Cols, n.Sums...)
	}
	return n
}

func TestNoCallPanics(t *testing.T) {
	h := hostile{rand.New(rand.NewSource(1)), edgeInts()}
	for range 50000 {
		tables, plan := exampleTables(), []api.Node{}
		for range h.Intn(3) {
			tables = append(tables[1:], h.table())
		}
		for range h.Intn(16) {
			n := h.node()
			if h.Intn(8) > 0 {
				n = lean(n)
			}
			plan = append(plan, n)
		}
		if e := spillway.Valid(tables, plan); e != api.OK && e != api.ErrPlan {
			t.Fatalf("P1: Valid: %d", e)
		}
		r, keys := h.row(), h.keys()
		if a, b := spillway.Encode(r, keys), spillway.Encode(r, keys); a != b {
			t.Fatalf("P1: Encode of %v by %v: %x, then %x", r, keys, a, b)
		}
	}
}

// TestCallsAtOneTime: nothing is kept between calls, so that they don't meet.
func TestCallsAtOneTime(t *testing.T) {
	tables, plan, r := exampleTables(), widePlan(), row(1, "a", true)
	want := spillway.Encode(r, allKeys(1))
	var group sync.WaitGroup
	for range 8 {
		group.Go(func() {
			for range 200 {
				if e := spillway.Valid(tables, plan); e != api.OK {
					t.Errorf("P1: Valid: %d", e)
				}
				if got := spillway.Encode(r, allKeys(1)); got != want {
					t.Errorf("P1: Encode: %x, want %x", got, want)
				}
			}
		})
	}
	group.Wait()
}
