package groups

import (
	"math"
	"math/big"
	"math/rand"
	"slices"
	"testing"

	"spillway/api"
)

// gaveUp is what something gave up with, or OK.
func gaveUp(do func()) (e api.Errno) {
	defer func() {
		if why := recover(); why != nil {
			e = why.(api.Errno)
		}
	}()
	do()
	return api.OK
}

func number(n int) api.Value { return api.Value{Kind: api.Int, N: n} }

// TestTotalIsTheSum: held against numbers that have no end.
func TestTotalIsTheSum(t *testing.T) {
	r := rand.New(rand.NewSource(1))
	edges := []int{math.MinInt, math.MinInt + 1, -1, 0, 1, math.MaxInt - 1, math.MaxInt, 1 << 62, -1 << 62}
	seen := map[api.Errno]int{}
	for range 20000 {
		sum, want := newTally(api.Total), new(big.Int)
		for range 1 + r.Intn(9) {
			n := edges[r.Intn(len(edges))]
			if r.Intn(3) == 0 {
				n = int(r.Uint64())
			}
			sum.add(number(n))
			sum.add(api.Value{})
			want.Add(want, big.NewInt(int64(n)))
		}
		var got api.Value
		e := gaveUp(func() { got = sum.value() })
		seen[e]++
		if want.IsInt64() && got != number(int(want.Int64())) || !want.IsInt64() && e != api.ErrOverflow {
			t.Fatalf("%v, %d, want %v", got, e, want)
		}
	}
	if seen[api.OK] < 1000 || seen[api.ErrOverflow] < 1000 {
		t.Error(seen)
	}
}

func TestTalliesOfNothing(t *testing.T) {
	for op, want := range map[int]api.Value{api.Count: number(0), api.Least: {}, api.Greatest: {}, api.Total: {}} {
		if got := newTally(op).value(); got != want {
			t.Errorf("operation %d of nothing: %v", op, got)
		}
		tally := newTally(op)
		tally.add(api.Value{})
		if got := tally.value(); op != api.Count && got != want || op == api.Count && got != number(1) {
			t.Errorf("operation %d of a Null: %v", op, got)
		}
	}
}

func TestFirstAndLast(t *testing.T) {
	r := rand.New(rand.NewSource(2))
	for _, values := range [][]api.Value{
		{number(math.MinInt), number(-1), number(0), number(math.MaxInt)},
		{{Kind: api.Text}, {Kind: api.Text, S: "\x00"}, {Kind: api.Text, S: "a"}, {Kind: api.Text, S: "ab"}},
		{{Kind: api.Flag}, {Kind: api.Flag, N: 1}},
	} {
		for range 20 {
			least, greatest := newTally(api.Least), newTally(api.Greatest)
			mixed := append(slices.Clone(values), api.Value{})
			r.Shuffle(len(mixed), func(i, j int) { mixed[i], mixed[j] = mixed[j], mixed[i] })
			for _, v := range mixed {
				least.add(v)
				greatest.add(v)
			}
			if least.value() != values[0] || greatest.value() != values[len(values)-1] {
				t.Errorf("of %v: %v and %v", mixed, least.value(), greatest.value())
			}
		}
	}
}

// TestPartsKeepNothingOfARow: the row that a part was made by may change.
func TestPartsKeepNothingOfARow(t *testing.T) {
	row := api.Row{number(1), number(2)}
	part := New([]int{1, 0}, []api.Sum{{Op: api.Least, Col: 1}}, row)
	part.Add(row)
	row[0], row[1] = number(8), number(9)
	first, again := part.Row(), part.Row()
	first[0] = number(7)
	if !slices.Equal(again, api.Row{number(2), number(1), number(2)}) || part.Has(row) || !part.Has(api.Row{number(1), number(2)}) {
		t.Errorf("%v", again)
	}
}
