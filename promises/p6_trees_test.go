package promises

import (
	"math/rand"
	"testing"

	"spillway/api"
)

// TestQueryRandomTrees: all operations together, with just room enough; each
// error of P6 that comes behind the first two must come in some of them.
func TestQueryRandomTrees(t *testing.T) {
	r := rand.New(rand.NewSource(20))
	seen := map[api.Errno]int{}
	for range 2000 {
		c := randomConfig(r)
		tables := randomTables(r, []int{5, 30, 60, 200}[r.Intn(4)], min(c.Block-16, 200))
		plan := randomTree(r, tables)
		wantModel(t, "a random tree", tables, plan, c)
		_, e, _ := model(tables, plan, c)
		seen[e]++
	}
	for _, e := range []api.Errno{api.OK, api.ErrMany, api.ErrOverflow, api.ErrRow} {
		if seen[e] < 5 {
			t.Errorf("error %d was seen %d times: %v", e, seen[e], seen)
		}
	}
}
