package plans

import (
	"slices"

	"spillway/api"
)

// goodColumns: are all tables, keys, columns and sums that the nodes name some,
// and has each node as many columns as it may? The plan is a tree.
func goodColumns(tables []api.Table, places map[string]int, plan []api.Node) bool {
	kinds := make([][]int, len(plan))
	for place, n := range plan {
		var ok bool
		if n.Op == api.Scan {
			kinds[place], ok = scanned(tables, places, n.Table)
		} else {
			kinds[place], ok = columns(n, kinds)
		}
		if !ok || len(kinds[place]) < 1 || len(kinds[place]) > api.MaxCols {
			return false
		}
	}
	return true
}

func scanned(tables []api.Table, places map[string]int, name string) ([]int, bool) {
	place, ok := places[name]
	if !ok {
		return nil, false
	}
	return tables[place].Kinds, true
}

// columns tells the kinds of a node's columns, from those of the nodes ahead
// of it; false, if what it has is not as its operation wants it.
func columns(n api.Node, kinds [][]int) ([]int, bool) {
	left := kinds[n.Left]
	switch n.Op {
	case api.Sort:
		return left, goodKeys(n.Keys, left)
	case api.Top:
		return left, goodKeys(n.Keys, left) && n.Count >= 0 && n.Count <= api.MaxTop
	case api.Join, api.Outer:
		return joined(n, left, kinds[n.Right])
	case api.Distinct:
		return left, true
	case api.Group:
		return grouped(n, left)
	}
	return nil, false
}

func isColumn(col int, kinds []int) bool {
	return col >= 0 && col < len(kinds)
}

func goodKeys(keys []api.Key, kinds []int) bool {
	if len(keys) < 1 || len(keys) > api.MaxKeys {
		return false
	}
	for _, key := range keys {
		if !isColumn(key.Col, kinds) {
			return false
		}
	}
	return true
}

// joined makes a new list: appending to Left's could write into the spare room
// of a list that was handed in.
func joined(n api.Node, left, right []int) ([]int, bool) {
	if len(n.Cols) < 1 || len(n.Cols) > api.MaxKeys || len(n.Others) != len(n.Cols) {
		return nil, false
	}
	for i, col := range n.Cols {
		other := n.Others[i]
		if !isColumn(col, left) || !isColumn(other, right) || left[col] != right[other] {
			return nil, false
		}
	}
	return slices.Concat(left, right), true
}

func grouped(n api.Node, left []int) ([]int, bool) {
	if len(n.Cols) > api.MaxKeys || len(n.Sums) > api.MaxKeys {
		return nil, false
	}
	var kinds []int
	for _, col := range n.Cols {
		if !isColumn(col, left) {
			return nil, false
		}
		kinds = append(kinds, left[col])
	}
	for _, sum := range n.Sums {
		kind, ok := summed(sum, left)
		if !ok {
			return nil, false
		}
		kinds = append(kinds, kind)
	}
	return kinds, true
}

func summed(sum api.Sum, left []int) (int, bool) {
	if !isColumn(sum.Col, left) {
		return 0, false
	}
	switch sum.Op {
	case api.Count:
		return api.Int, sum.Col == 0
	case api.Least, api.Greatest:
		return left[sum.Col], true
	case api.Total:
		return api.Int, left[sum.Col] == api.Int
	}
	return 0, false
}
