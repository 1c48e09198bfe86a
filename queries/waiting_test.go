package queries

import (
	"slices"
	"testing"

	"spillway/api"
)

// TestWhoWaits: nothing but what the next node takes is left to be gone through
// later, or a later node's error would be told first; and no sorter that still
// gives rows stands beside those of a join.
func TestWhoWaits(t *testing.T) {
	scan, sort, group := api.Node{Op: api.Scan}, api.Node{Op: api.Sort}, api.Node{Op: api.Group}
	over := func(n api.Node, left, right int) api.Node {
		n.Left, n.Right = left, right
		return n
	}
	join, outer := api.Node{Op: api.Join}, api.Node{Op: api.Outer}
	for _, x := range []struct {
		why  string
		plan []api.Node
		want []int
	}{
		{"a scan", []api.Node{scan}, nil},
		{"a chain", []api.Node{scan, over(sort, 0, 0), over(group, 1, 0), over(sort, 2, 0)}, nil},
		{"a join of scans", []api.Node{scan, scan, over(join, 0, 1)}, nil},
		{"a join's rows, taken by the next", []api.Node{scan, scan, over(outer, 0, 1), over(sort, 2, 0)}, []int{2}},
		{"a join's sides", []api.Node{scan, over(group, 0, 0), scan, over(sort, 2, 0), over(join, 3, 1)}, []int{1, 3}},
		{"a join's right side, taken by the next", []api.Node{scan, scan, over(sort, 1, 0), over(outer, 0, 2)}, []int{2}},
		{"the end of a chain that is not taken by the next", []api.Node{scan, over(group, 0, 0), over(sort, 1, 0), scan, over(sort, 3, 0), over(join, 2, 4)}, []int{2, 4}},
		{"chains that take turns", []api.Node{scan, scan, over(group, 0, 0), over(group, 1, 0), over(sort, 2, 0), over(join, 3, 4)}, []int{2, 3, 4}},
	} {
		var got []int
		for place := range x.plan {
			if waits(x.plan, place) {
				got = append(got, place)
			}
		}
		if !slices.Equal(got, x.want) {
			t.Errorf("%s: %v wait, want %v", x.why, got, x.want)
		}
	}
}
