package promises

import (
	"math/rand"
	"slices"
	"strings"

	"spillway/api"
	"spillway/spillway"
)

// tableOf is a table "t" of so many random rows, each of at most so many bytes.
func tableOf(r *rand.Rand, kinds []int, rows, most int) api.Table {
	table := api.Table{Name: "t", Kinds: kinds}
	for range rows {
		table.Rows = append(table.Rows, randomRow(r, kinds, most))
	}
	return table
}

func randomRow(r *rand.Rand, kinds []int, most int) api.Row {
	out := make(api.Row, len(kinds))
	spare := most - 8 - len(kinds)
	for _, col := range r.Perm(len(kinds)) {
		v := randomValue(r, kinds[col], spare)
		out[col] = v
		spare -= sizeOf(api.Row{v}) - 9
	}
	return out
}

func randomValue(r *rand.Rand, kind, spare int) api.Value {
	switch {
	case r.Intn(6) == 0:
	case kind == api.Int && spare >= 8 && r.Intn(3) == 0:
		return value(edgeInts()[r.Intn(len(edgeInts()))])
	case kind == api.Int && spare >= 8:
		return value(r.Intn(9) - 4)
	case kind == api.Text && spare >= 2:
		long := r.Intn(min(spare-2, api.MaxText) + 1)
		return value(strings.Repeat(string([]byte{byte(r.Intn(4))}), r.Intn(long+1)))
	case kind == api.Flag && spare >= 1:
		return value(r.Intn(2) == 1)
	}
	return value(nil)
}

func randomKinds(r *rand.Rand) []int {
	kinds := make([]int, 1+r.Intn(api.MaxCols))
	for i := range kinds {
		kinds[i] = api.Int + r.Intn(3)
	}
	return kinds
}

func randomKeys(r *rand.Rand, cols int) []api.Key {
	keys := make([]api.Key, 1+r.Intn(api.MaxKeys))
	for i := range keys {
		keys[i] = api.Key{Col: r.Intn(cols), Down: r.Intn(2) == 0, Last: r.Intn(2) == 0}
	}
	return keys
}

// randomChain is a scan, and some sorts and tops over it.
func randomChain(r *rand.Rand, cols int) []api.Node {
	plan := []api.Node{scan("t")}
	for range r.Intn(api.MaxDeep) {
		if left := len(plan) - 1; r.Intn(3) == 0 {
			plan = append(plan, top(left, r.Intn(api.MaxTop+1), randomKeys(r, cols)...))
		} else {
			plan = append(plan, sort(left, randomKeys(r, cols)...))
		}
	}
	return plan
}

func randomConfig(r *rand.Rand) api.Config {
	block := api.MinBlock + r.Intn(api.MaxBlock-api.MinBlock+1)
	if r.Intn(2) == 0 {
		block = api.MinBlock + r.Intn(100)
	}
	budget := 4 * block
	if r.Intn(2) == 0 {
		budget += r.Intn(20 * block)
	}
	return api.Config{Block: block, Fan: api.MinFan + r.Intn(api.MaxFan-api.MinFan+1), Budget: budget}
}

// tree is a plan that is being made: the kinds of its nodes' columns, and the
// places of those whose rows nobody takes yet.
type tree struct {
	*rand.Rand
	tables []api.Table
	plan   []api.Node
	kinds  [][]int
	open   []int
}

// randomTree is a valid plan of any operations, in any order of the list that
// there may be.
func randomTree(r *rand.Rand, tables []api.Table) []api.Node {
	for {
		t := &tree{Rand: r, tables: tables}
		for most := 1 + r.Intn(api.MaxNodes); len(t.plan) < most; {
			t.grow()
		}
		for len(t.open) > 1 {
			t.join()
		}
		if spillway.Valid(tables, t.plan) == api.OK {
			return t.plan
		}
	}
}

func (t *tree) grow() {
	switch pick := t.Intn(6); {
	case len(t.open) == 0 || pick < 2 && len(t.plan)+len(t.open) < api.MaxNodes:
		table := t.tables[t.Intn(len(t.tables))]
		t.add(scan(table.Name), table.Kinds)
	case pick == 2 && len(t.open) > 1:
		t.join()
	default:
		t.growOne()
	}
}

func (t *tree) add(n api.Node, kinds []int) {
	t.open = append(t.open, len(t.plan))
	t.plan = append(t.plan, n)
	t.kinds = append(t.kinds, kinds)
}

// take is one of the nodes whose rows nobody takes yet.
func (t *tree) take() int {
	at := t.Intn(len(t.open))
	place := t.open[at]
	t.open = slices.Delete(t.open, at, at+1)
	return place
}

func (t *tree) growOne() {
	left := t.take()
	kinds := t.kinds[left]
	switch t.Intn(4) {
	case 0:
		t.add(sort(left, randomKeys(t.Rand, len(kinds))...), kinds)
	case 1:
		t.add(top(left, t.Intn(60), randomKeys(t.Rand, len(kinds))...), kinds)
	case 2:
		t.add(distinct(left), kinds)
	case 3:
		t.group(left)
	}
}

func (t *tree) group(left int) {
	n, kinds := group(left, nil), []int{}
	for range t.Intn(api.MaxKeys) {
		col := t.Intn(len(t.kinds[left]))
		n.Cols, kinds = append(n.Cols, col), append(kinds, t.kinds[left][col])
	}
	for range 1 + t.Intn(2) {
		sum := api.Sum{Op: api.Least + t.Intn(3), Col: t.Intn(len(t.kinds[left]))}
		kind := t.kinds[left][sum.Col]
		if sum.Op == api.Total && kind != api.Int {
			sum, kind = api.Sum{Op: api.Count}, api.Int
		}
		n.Sums, kinds = append(n.Sums, sum), append(kinds, kind)
	}
	t.add(n, kinds)
}

func (t *tree) join() {
	n := join(api.Join+t.Intn(2), t.take(), t.take(), nil, nil)
	left, right := t.kinds[n.Left], t.kinds[n.Right]
	for range 1 + t.Intn(2)*t.Intn(api.MaxKeys) {
		for range 20 {
			if col, other := t.Intn(len(left)), t.Intn(len(right)); left[col] == right[other] {
				n.Cols, n.Others = append(n.Cols, col), append(n.Others, other)
				break
			}
		}
	}
	t.add(n, slices.Concat(left, right))
}

// randomTables are three of few columns, whose values are often alike.
func randomTables(r *rand.Rand, rows, most int) []api.Table {
	var tables []api.Table
	for _, name := range []string{"t", "u", "v"} {
		table := tableOf(r, randomKinds(r)[:1], r.Intn(rows+1), most)
		if r.Intn(4) > 0 {
			table = tableOf(r, []int{api.Int + r.Intn(3), api.Int, api.Int + r.Intn(3)}[:1+r.Intn(3)], r.Intn(rows+1), most)
		}
		table.Name = name
		tables = append(tables, table)
	}
	return tables
}
