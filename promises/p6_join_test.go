package promises

import (
	"fmt"
	"math/rand"
	"slices"
	"strings"
	"testing"

	"spillway/api"
)

// sides is a join of the tables "t" and "u".
func sides(op int, cols, others []int) []api.Node {
	return []api.Node{scan("t"), scan("u"), join(op, 0, 1, cols, others)}
}

// two are tables "t" and "u".
func two(t, u []api.Row) []api.Table {
	right := tableT(u...)[0]
	right.Name = "u"
	return append(tableT(t...), right)
}

func TestJoinExamples(t *testing.T) {
	self := func(op int) []api.Node {
		return []api.Node{scan("t"), scan("t"), join(op, 0, 1, []int{0}, []int{0})}
	}
	rows := []api.Row{row(1, "a", 1, "a"), row(2, "b", 2, "b"), row(2, "b", 2, "a"), row(2, "a", 2, "b"), row(2, "a", 2, "a")}
	wantRows(t, "the document's", documentTables(), self(api.Join), rows...)
	wantRows(t, "the document's, outer", documentTables(), self(api.Outer), append([]api.Row{row(nil, "c", nil, nil)}, rows...)...)
	left := []api.Row{row(true, 2), row(false, nil), row(nil, 3), row(false, 2), row(true, 0)}
	right := []api.Row{row(2, "b"), row(1, "a"), row(nil, "c"), row(2, "a")}
	in, out := []int{1}, []int{0}
	matched := []api.Row{row(true, 2, 2, "b"), row(true, 2, 2, "a"), row(false, 2, 2, "b"), row(false, 2, 2, "a")}
	wantRows(t, "two tables", two(left, right), sides(api.Join, in, out), matched...)
	all := slices.Concat([]api.Row{row(false, nil, nil, nil), row(true, 0, nil, nil)}, matched, []api.Row{row(nil, 3, nil, nil)})
	wantRows(t, "two tables, outer", two(left, right), sides(api.Outer, in, out), all...)
	back := []api.Row{row(2, "b", true, 2), row(2, "b", false, 2), row(2, "a", true, 2), row(2, "a", false, 2)}
	wantRows(t, "the other way round", two(right, left), sides(api.Join, out, in), back...)
	swapped := sides(api.Join, out, in)
	swapped[2].Left, swapped[2].Right = 1, 0
	wantRows(t, "Left is behind Right in the list", two(left, right), swapped, back...)
	wantRows(t, "a join of joins", documentTables(), []api.Node{
		scan("t"), group(0, []int{0}), scan("t"), group(2, []int{0}), join(api.Join, 1, 3, []int{0}, []int{0}),
		scan("t"), group(5, []int{0}, sum(api.Total, 0)), join(api.Outer, 6, 4, []int{1}, []int{1}),
	}, row(nil, nil, nil, nil), row(1, 1, 1, 1), row(2, 4, nil, nil))
}

// TestJoinKeys: pairs of any kind; texts that begin alike, numbers at the ends;
// Null is the same as nothing, not even as Null, 0 or the empty text.
func TestJoinKeys(t *testing.T) {
	for _, values := range [][]any{
		{0, nil, -1, 1<<63 - 1, -1 << 63, 1, nil, 0}, {"", nil, "a", "a\x00", "ab", "\xff", "", nil}, {false, nil, true, nil, false},
	} {
		var left, right []api.Row
		for i, v := range values {
			left, right = append(left, row(v, i)), append(right, row(-i, v))
		}
		slices.Reverse(right)
		for _, op := range []int{api.Join, api.Outer} {
			for _, c := range configs() {
				wantModel(t, fmt.Sprint("keys ", values), two(left, right), sides(op, []int{0}, []int{1}), c)
			}
		}
	}
}

// TestJoinByFourColumns: all must be the same, and none Null; Cols in their
// order decide.
func TestJoinByFourColumns(t *testing.T) {
	var rows []api.Row
	for n := range 81 {
		digit := func(by int) any { return []any{nil, true, false}[n*7/by%3] }
		rows = append(rows, row(digit(1), digit(3), digit(9), digit(27)))
	}
	other := slices.Clone(rows[20:])
	slices.Reverse(other)
	for _, op := range []int{api.Join, api.Outer} {
		for _, c := range []api.Config{least(64), least(500), {Block: 64, Fan: 16, Budget: 1 << 16}} {
			for _, cols := range [][]int{{0, 1, 2, 3}, {3, 1, 0, 2}, {2, 2}, {1, 3, 1}} {
				others := slices.Clone(cols)
				wantModel(t, "the same columns", two(rows, other), sides(op, cols, others), c)
				slices.Reverse(others)
				wantModel(t, "other columns", two(rows, other), sides(op, cols, others), c)
			}
		}
	}
}

func TestJoinOfNoRows(t *testing.T) {
	some, none := []api.Row{row(2, "x"), row(nil, "y"), row(1, "z")}, api.Table{Name: "u", Kinds: []int{api.Int, api.Flag}}
	right, left := append(tableT(some...), none), append(tableT(some...), none)
	right[0].Name, right[1].Name = "u", "t"
	on := []int{0}
	wantRows(t, "nothing on the right", left, sides(api.Join, on, on))
	wantRows(t, "nothing on the left", right, sides(api.Join, on, on))
	wantRows(t, "nothing on the left, outer", right, sides(api.Outer, on, on))
	wantRows(t, "nothing on the right, outer", left, sides(api.Outer, on, on), row(nil, "y", nil, nil), row(1, "z", nil, nil), row(2, "x", nil, nil))
	nulls := []api.Row{row(nil, 1), row(nil, 2)}
	tables := two(nulls, nulls)
	tables[0].Kinds, tables[1].Kinds = []int{2, 1}, []int{2, 1}
	wantRows(t, "Nulls alone", tables, sides(api.Join, on, on))
	wantRows(t, "Nulls alone, outer", tables, sides(api.Outer, on, on), row(nil, 1, nil, nil), row(nil, 2, nil, nil))
}

// keyed has so many rows, with a key and their number.
func keyed(n int, key func(i int) any) []api.Row {
	rows := []api.Row{}
	for i := range n {
		rows = append(rows, row(key(i), i))
	}
	return rows
}

func constant(i int) any { return 7 }

// TestJoinManyOfOneKey: on both sides more rows of one key than fit into the
// budget, so that they come from the disk again and again.
func TestJoinManyOfOneKey(t *testing.T) {
	around := func(i int) any { return []any{7, 7, 7, nil, 6, 8}[i%6] }
	for why, tables := range map[string][]api.Table{
		"one key on both sides":           two(keyed(140, constant), keyed(140, constant)),
		"few on the left":                 two(keyed(3, constant), keyed(900, constant)),
		"few on the right":                two(keyed(900, constant), keyed(3, constant)),
		"with others on the left":         two(keyed(200, around), keyed(100, constant)),
		"with others on the right":        two(keyed(100, constant), keyed(200, around)),
		"with others on both sides":       two(keyed(150, around), keyed(150, around)),
		"two keys, one of them all right": two(keyed(100, func(i int) any { return i % 2 }), keyed(250, func(i int) any { return 1 })),
	} {
		for _, op := range []int{api.Join, api.Outer} {
			for _, c := range []api.Config{least(64), {Block: 64, Fan: 16, Budget: 640}, {Block: 200, Fan: 3, Budget: 1001}, {Block: 4096, Fan: 16, Budget: 1 << 22}} {
				wantModel(t, why, tables, sides(op, []int{0}, []int{0}), c)
			}
		}
	}
}

// TestJoinManyRuns: more runs than may be merged at one time, on both sides.
func TestJoinManyRuns(t *testing.T) {
	r := rand.New(rand.NewSource(22))
	orders := []func(i int) any{
		func(i int) any { return i / 3 },
		func(i int) any { return -i },
		func(int) any { return r.Intn(400) - 200 },
		func(i int) any { return []any{nil, r.Intn(100)}[r.Intn(2)] },
	}
	for i, left := range orders {
		for k, right := range orders {
			tables := two(keyed(700, left), keyed(600, right))
			for _, c := range []api.Config{least(64), {Block: 64, Fan: 3, Budget: 400}, {Block: 256, Fan: 16, Budget: 5000}} {
				for _, op := range []int{api.Join, api.Outer} {
					wantModel(t, fmt.Sprint("orders ", i, " and ", k), tables, sides(op, []int{0}, []int{0}), c)
				}
			}
		}
	}
}

// TestJoinKeepsOrders: alike rows stay in the order that a Sort below gave
// them, on either side.
func TestJoinKeepsOrders(t *testing.T) {
	tables := two(keyed(120, func(i int) any { return i % 9 }), keyed(90, func(i int) any { return i % 11 }))
	for _, op := range []int{api.Join, api.Outer} {
		for _, c := range []api.Config{least(64), {Block: 64, Fan: 4, Budget: 1000}, {Block: 4096, Fan: 4, Budget: 1 << 20}} {
			for _, key := range allKeys(1) {
				wantModel(t, "sorted sides", tables, []api.Node{scan("t"), sort(0, key), scan("u"), sort(2, api.Key{Col: 1, Down: true}), join(op, 1, 3, []int{0}, []int{0})}, c)
				wantModel(t, "sorted sides, in another order of the list", tables, []api.Node{scan("u"), scan("t"), sort(1, key), top(0, 50, api.Key{Col: 1, Down: true}), join(op, 2, 3, []int{0}, []int{0}), sort(4, api.Key{Col: 2})}, c)
			}
		}
	}
}

// TestJoinNeedsNoMoreRoom: P7's room, where the join itself has none or few
// rows, and its sides leave much of each block empty.
func TestJoinNeedsNoMoreRoom(t *testing.T) {
	for _, block := range []int{64, 100, 250} {
		for _, size := range []int{21, (block-16)/2 + 1, (block-16)/3 + 1, block - 16} {
			text := strings.Repeat("x", max(0, min(api.MaxText, size-20)))
			tables := append(tableT(row(1, text)), api.Table{Name: "u", Kinds: []int{api.Int, api.Text}})
			for i := range 600 {
				tables[0].Rows = append(tables[0].Rows, row(-2*i, text[:len(text)*(i%2)]))
				tables[1].Rows = append(tables[1].Rows, row(-2*i-1, text))
			}
			down := api.Key{Down: true}
			for _, plan := range [][]api.Node{
				sides(api.Join, []int{0}, []int{0}),
				sides(api.Join, []int{0, 1}, []int{0, 1}),
				{scan("t"), distinct(0), scan("u"), sort(2, down), join(api.Join, 3, 1, []int{0}, []int{0})},
				{scan("t"), sort(0, down), scan("u"), group(2, []int{0, 1}), sort(3, down), join(api.Join, 1, 4, []int{0}, []int{0}), group(5, nil, sum(api.Count, 0))},
			} {
				for _, c := range []api.Config{least(block), {Block: block, Fan: 16, Budget: 4*block + 3}} {
					wantModel(t, fmt.Sprint("rows of ", size, " in blocks of ", block), tables, plan, c)
				}
			}
		}
	}
}
