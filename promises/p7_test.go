package promises

import (
	"fmt"
	"math"
	"math/rand"
	"slices"
	"testing"

	"spillway/api"
	"spillway/disk"
)

// TestFaultAtEachPlace: each kind of fault, at each place where it can come,
// and behind the last one.
func TestFaultAtEachPlace(t *testing.T) {
	t.Parallel()
	for _, x := range trials(t) {
		for kind := failedAppend; kind <= turnedBit; kind++ {
			came := 0
			for n := 1; n <= x.places(kind); n++ {
				f := fault{kind, n, 13 * n}
				if e, _ := x.wantP7(t, x.room, f); e != api.OK {
					came++
				}
				if n%5 == 0 {
					x.wantP7Twice(t, f)
				}
			}
			if came < 100 {
				t.Errorf("P7: %s: fault %d came %d times", x.why, kind, came)
			}
			for _, late := range []int{x.places(kind) + 1, x.places(kind) + 2, math.MaxInt} {
				if e := x.wantP7Twice(t, fault{kind, late, 13}); e != api.OK {
					t.Errorf("P7: %s: fault %d at %d did not come: %d", x.why, kind, late, e)
				}
			}
		}
	}
}

// TestEachBitOfABlock: of blocks that hold a table's rows, merged ones, and
// what waits for another node.
func TestEachBitOfABlock(t *testing.T) {
	t.Parallel()
	for _, x := range trials(t) {
		for _, n := range []int{1, x.appends / 2, x.appends} {
			broken := 0
			for bit := range 8 * x.c.Block {
				if e, _ := x.wantP7(t, x.room, fault{turnedBit, n, bit}); e == api.ErrBroken {
					broken++
				}
			}
			// A block that is never read goes unnoticed, but not some of its bits.
			if broken != 0 && broken != 8*x.c.Block {
				t.Errorf("P7: %s: only %d bits of block %d were noticed", x.why, broken, n)
			}
		}
	}
}

// TestBitsOfAllNumbers: a bit's number may be any.
func TestBitsOfAllNumbers(t *testing.T) {
	t.Parallel()
	for _, x := range trials(t) {
		for n := 1; n <= x.appends; n += 7 {
			for _, bit := range []int{math.MinInt, math.MinInt + 1, -1, 8 * 64, 1 << 32, math.MaxInt - n, math.MaxInt} {
				x.wantP7(t, x.room, fault{turnedBit, n, bit})
			}
		}
	}
}

// TestFaultsOfDifferentKinds: two of them, and all three, in one query, close
// together and far apart.
func TestFaultsOfDifferentKinds(t *testing.T) {
	t.Parallel()
	seen := map[api.Errno]int{}
	for _, x := range trials(t) {
		for a := 1; a <= x.appends; a += 1 + x.appends/11 {
			for b := 1; b <= x.appends; b += 1 + x.appends/13 {
				appended, read, turned := fault{failedAppend, a, 0}, fault{failedRead, max(1, b*x.reads/x.appends), 0}, fault{turnedBit, b, 31 * a}
				for _, faults := range [][]fault{{appended, read}, {appended, turned}, {read, {turnedBit, a, b}}, {appended, read, turned}} {
					seen[x.wantP7Twice(t, faults...)]++
				}
			}
		}
		for n := 1; n <= x.appends; n += 3 {
			seen[x.wantP7Twice(t, fault{failedAppend, n, 0}, fault{turnedBit, n, n})]++
			seen[x.wantP7Twice(t, fault{failedAppend, n + 1, 0}, fault{turnedBit, n, n})]++
		}
	}
	if seen[api.ErrFail] < 100 || seen[api.ErrBroken] < 100 {
		t.Errorf("P7: the answers were %v", seen)
	}
}

// TestFaultsOnASmallDisk: a fault, and too little room.
func TestFaultsOnASmallDisk(t *testing.T) {
	t.Parallel()
	seen := map[api.Errno]int{}
	for _, x := range trials(t) {
		for free := 0; free < x.room; free += 1 + x.room/23 {
			for n := 1; n <= x.reads; n += 1 + x.reads/11 {
				for kind := failedAppend; kind <= turnedBit; kind++ {
					e, _ := x.wantP7(t, free, fault{kind, n, n})
					seen[e]++
				}
			}
		}
	}
	for _, e := range []api.Errno{api.OK, api.ErrFull, api.ErrFail, api.ErrBroken} {
		if seen[e] < 100 {
			t.Errorf("P7: the answers were %v", seen)
		}
	}
}

// deciding are plans of which a node decides when much was written already,
// by each error of P6.
func deciding(t *testing.T) []trial {
	t.Helper()
	tables, plans := spilling()
	tables = append(tables, faulty()...)
	ahead := plans[len(plans)-1][:5]
	var list []trial
	for _, b := range branches() {
		plan := append(slices.Clone(ahead), moved(b.nodes, len(ahead))...)
		plan = append(plan, join(api.Outer, len(ahead)-1, len(plan)-1, []int{0}, []int{0}))
		plan = append(plan, group(len(plan)-1, nil, sum(api.Count, 0)))
		x := trialOf(t, b.why, tables, plan, least(64))
		if b.want != api.OK && x.e != b.want {
			t.Fatalf("%s: the model says %d, want %d", b.why, x.e, b.want)
		}
		if x.appends < 100 {
			t.Errorf("%s: %d blocks are too few for this test", b.why, x.appends)
		}
		list = append(list, x)
	}
	return list
}

// TestFaultsWhereANodeDecides: the node's error, or the fault's; and with just
// room enough no other.
func TestFaultsWhereANodeDecides(t *testing.T) {
	t.Parallel()
	for _, x := range deciding(t) {
		seen := map[api.Errno]int{}
		for kind := failedAppend; kind <= turnedBit; kind++ {
			for n := 1; n <= x.places(kind); n += 1 + x.places(kind)/25 {
				seen[x.wantP7Twice(t, fault{kind, n, 17 * n})]++
			}
		}
		for free := 0; free < x.room; free += 1 + x.room/25 {
			e, _ := x.wantP7(t, free)
			seen[e]++
		}
		if seen[x.e] == 0 || seen[api.ErrFail] == 0 || seen[api.ErrBroken] == 0 || seen[api.ErrFull] == 0 {
			t.Errorf("P7: %s: the answers were %v", x.why, seen)
		}
	}
}

// TestFaultsOfRandomTrees: plans of all kinds, in all configurations, with
// faults anywhere, and room of all sizes.
func TestFaultsOfRandomTrees(t *testing.T) {
	t.Parallel()
	r := rand.New(rand.NewSource(31))
	seen := map[api.Errno]int{}
	for range 600 {
		c := randomConfig(r)
		tables := randomTables(r, []int{5, 30, 60}[r.Intn(3)], min(c.Block-16+r.Intn(2)*r.Intn(9), 200))
		x := trialOf(t, "a random tree", tables, randomTree(r, tables), c)
		for range 8 {
			var faults []fault
			for kind := failedAppend; kind <= turnedBit; kind++ {
				if r.Intn(2) == 0 {
					faults = append(faults, fault{kind, 1 + r.Intn(x.appends+x.reads+2), r.Int()})
				}
			}
			free := x.room
			if r.Intn(2) == 0 {
				free = r.Intn(x.appends + 2)
			}
			e, _ := x.wantP7(t, free, faults...)
			seen[e]++
		}
	}
	for e := api.ErrRow; e <= api.ErrMany; e++ {
		if seen[e] < 5 && e != api.ErrBlock {
			t.Errorf("error %d was seen %d times: %v", e, seen[e], seen)
		}
	}
}

// TestFaultsAtTheFace: the first two errors of P6 come whatever the disk does.
func TestFaultsAtTheFace(t *testing.T) {
	tables, plans := spilling()
	for _, plan := range plans {
		for _, x := range []struct {
			c    api.Config
			want api.Errno
		}{{least(63), api.ErrPlan}, {api.Config{Block: 64, Fan: 17, Budget: 256}, api.ErrPlan}, {api.Config{Block: 64, Fan: 2, Budget: 255}, api.ErrBudget}, {least(65), api.ErrBudget}} {
			for kind := failedAppend; kind <= turnedBit; kind++ {
				d := usedDisk(64, 0)
				d.Fault(kind, 1, 0)
				if _, e := ask(t, "at the face", tables, plan, x.c, d); e != x.want {
					t.Errorf("P7: fault %d: %d, want %d (%+v)", kind, e, x.want, x.c)
				}
				wantOthersKept(t, fmt.Sprint("fault ", kind), d)
			}
		}
	}
	if _, e := ask(t, "no disk of New's", tables, plans[0], least(64), new(disk.Disk)); e != api.ErrBudget {
		t.Errorf("P6: a disk of blocks of no bytes: %d", e)
	}
}
