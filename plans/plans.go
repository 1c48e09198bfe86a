// Package plans tells which plans are valid for which tables.
package plans

import "spillway/api"

// Valid tells whether a plan is valid for some tables.
func Valid(tables []api.Table, plan []api.Node) bool {
	if len(plan) < 1 || len(plan) > api.MaxNodes {
		return false
	}
	places, ok := placesByName(tables)
	return ok && goodTables(tables) && isTree(plan) && goodColumns(tables, places, plan)
}

// isTree: are all nodes of known operations, with nothing that these do not
// have, and do they hang together as the root and what is below it?
func isTree(plan []api.Node) bool {
	for place, n := range plan {
		if !otherFieldsEmpty(n) || !inputsAhead(n, place) {
			return false
		}
	}
	return eachAskedOnce(plan) && deepest(plan) <= api.MaxDeep
}

// otherFieldsEmpty clears, in a copy of the node, what its operation has: then
// nothing may be left. An operation that there is none of has no such fields.
func otherFieldsEmpty(n api.Node) bool {
	switch n.Op {
	case api.Scan:
		n.Table = ""
	case api.Sort:
		n.Left, n.Keys = 0, nil
	case api.Top:
		n.Left, n.Keys, n.Count = 0, nil, 0
	case api.Join, api.Outer:
		n.Left, n.Right, n.Cols, n.Others = 0, 0, nil, nil
	case api.Distinct:
		n.Left = 0
	case api.Group:
		n.Left, n.Cols, n.Sums = 0, nil, nil
	default:
		return false
	}
	numbers := n.Left == 0 && n.Right == 0 && n.Count == 0
	lists := len(n.Keys) == 0 && len(n.Cols) == 0 && len(n.Others) == 0 && len(n.Sums) == 0
	return numbers && lists && n.Table == ""
}

// inputs are the places of the nodes whose rows a node takes.
func inputs(n api.Node) []int {
	switch n.Op {
	case api.Scan:
		return nil
	case api.Join, api.Outer:
		return []int{n.Left, n.Right}
	}
	return []int{n.Left}
}

func inputsAhead(n api.Node, place int) bool {
	for _, input := range inputs(n) {
		if input < 0 || input >= place {
			return false
		}
	}
	return true
}

// eachAskedOnce need not look at the root: no node stands behind it.
func eachAskedOnce(plan []api.Node) bool {
	asked := make([]int, len(plan))
	for _, n := range plan {
		for _, input := range inputs(n) {
			asked[input]++
		}
	}
	for _, times := range asked[:len(plan)-1] {
		if times != 1 {
			return false
		}
	}
	return true
}

// deepest goes from the root to the front, so that a node's own depth is known
// ahead of those of its inputs.
func deepest(plan []api.Node) int {
	deep := make([]int, len(plan))
	root := len(plan) - 1
	deep[root] = 1
	most := 1
	for place := root; place >= 0; place-- {
		most = max(most, deep[place])
		for _, input := range inputs(plan[place]) {
			deep[input] = deep[place] + 1
		}
	}
	return most
}
