package groups

import (
	"math/bits"

	"spillway/api"
	"spillway/order"
)

// tally gathers what a sum asks of the values of one column.
type tally interface {
	add(v api.Value)
	value() api.Value
}

func newTally(op int) tally {
	switch op {
	case api.Count:
		return &count{}
	case api.Least:
		return &first{key: api.Key{Last: true}}
	case api.Greatest:
		return &first{key: api.Key{Last: true, Down: true}}
	}
	return &total{}
}

type count struct{ rows int }

func (c *count) add(api.Value) { c.rows++ }

func (c *count) value() api.Value { return api.Value{Kind: api.Int, N: c.rows} }

// first is the first of the values by a key that has Nulls behind all others,
// so that the Null which it begins with stays only if there is nothing else.
type first struct {
	key  api.Key
	best api.Value
}

func (f *first) add(v api.Value) {
	if order.CompareValues(v, f.best, f.key) < 0 {
		f.best = v
	}
}

func (f *first) value() api.Value { return f.best }

// total keeps the sum in two words: it may leave the ints on the way and come
// back to them, and only where it ends is asked for.
type total struct {
	high, low uint64
	some      bool
}

func (t *total) add(v api.Value) {
	if v.Kind == api.Null {
		return
	}
	var carry uint64
	t.low, carry = bits.Add64(t.low, uint64(v.N), 0)
	t.high, _ = bits.Add64(t.high, signOf(uint64(v.N)), carry)
	t.some = true
}

// value gives up, if the sum is no int.
func (t *total) value() api.Value {
	if !t.some {
		return api.Value{}
	}
	if t.high != signOf(t.low) {
		panic(api.ErrOverflow)
	}
	return api.Value{Kind: api.Int, N: int(t.low)}
}

// signOf is the word that stands above a word which has a sign.
func signOf(word uint64) uint64 { return uint64(int64(word) >> 63) }
