package promises

import (
	"fmt"
	"math/rand"
	"strings"
	"testing"

	"spillway/api"
)

// TestQueryGivesBackWithEachError: P8, of P6's errors.
func TestQueryGivesBackWithEachError(t *testing.T) {
	tables, plans := spilling()
	long := []api.Table{{Name: "t", Kinds: tables[0].Kinds, Rows: append(tables[0].Rows, row(nil, strings.Repeat("x", 99), nil))}, tables[1]}
	many := []api.Table{{Name: "t", Kinds: tables[0].Kinds, Rows: make([]api.Row, api.MaxRows+1)}, tables[1]}
	for i := range many[0].Rows {
		many[0].Rows[i] = row(nil, nil, nil)
	}
	for _, plan := range plans {
		for _, x := range []struct {
			tables []api.Table
			plan   []api.Node
			c      api.Config
			want   api.Errno
		}{
			{tables, plan, least(64), api.OK}, {nil, plan, least(64), api.ErrPlan}, {tables, plan, least(63), api.ErrPlan},
			{tables, plan, api.Config{Block: 64, Fan: 2}, api.ErrBudget}, {tables, plan, least(65), api.ErrBudget},
			{long, plan, least(64), api.ErrRow}, {many, plan, least(64), api.ErrMany},
		} {
			d := usedDisk(64, 10000)
			if _, e := ask(t, "each error", x.tables, x.plan, x.c, d); e != x.want {
				t.Errorf("P6: %d, want %d", e, x.want)
			}
			wantOthersKept(t, fmt.Sprint("error ", x.want), d)
		}
	}
}

// TestQueryGivesBackWhereANodeDecides: P8, of errors that come when much is on
// the disk already; and with just room enough no other error comes.
func TestQueryGivesBackWhereANodeDecides(t *testing.T) {
	for _, x := range deciding(t) {
		if e := x.wantP7Twice(t); e != x.e {
			t.Errorf("P7: %s: %d, want %d", x.why, e, x.e)
		}
	}
}

// TestManyQueriesOnOneDisk: whatever became of those ahead of it, a query finds
// the disk as if it were the first one there.
func TestManyQueriesOnOneDisk(t *testing.T) {
	t.Parallel()
	r := rand.New(rand.NewSource(33))
	list := append(trials(t), deciding(t)...)
	room := 0
	for _, x := range list {
		room = max(room, x.room)
	}
	d := usedDisk(101, room)
	for range 1500 {
		x := list[r.Intn(len(list))]
		kind := failedAppend + r.Intn(3)
		f := fault{kind, 1 + r.Intn(x.places(kind)), r.Int()}
		d.Fault(f.kind, f.n, f.bit)
		if rows, e := ask(t, x.why, x.tables, x.plan, x.c, d); e != f.error() && (e != x.e || !sameRows(rows, x.rows)) {
			t.Fatalf("P7: %s: fault %v: %d rows, %d", x.why, f, len(rows), e)
		}
		wantOthersKept(t, x.why, d)
		y := list[r.Intn(len(list))]
		y.wantP6(t, "behind "+x.why, d)
	}
	wantOthersKept(t, "many queries", d)
}
