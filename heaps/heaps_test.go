package heaps

import (
	"math/rand"
	"slices"
	"testing"
)

func less(a, b int) bool { return a < b }

func TestPopGivesTheLeast(t *testing.T) {
	r := rand.New(rand.NewSource(1))
	for size := range 70 {
		h, want := New(less), []int{}
		for range size {
			n := r.Intn(20)
			h.Push(n)
			want = append(want, n)
		}
		slices.Sort(want)
		for _, n := range want {
			if least := h.Least(); least != n || h.Pop() != n {
				t.Fatalf("of %v: %d", want, least)
			}
		}
		if h.Len() != 0 {
			t.Errorf("%d are left", h.Len())
		}
	}
}

func TestReplaceTakesTheLeastOut(t *testing.T) {
	r := rand.New(rand.NewSource(2))
	h, want := New(less), []int{5, 5, 5, 5, 5, 5, 5, 5, 5}
	for _, n := range want {
		h.Push(n)
	}
	for range 1000 {
		n := r.Intn(20)
		h.Replace(n)
		want[0] = n
		slices.Sort(want)
		if h.Least() != want[0] || h.Len() != len(want) {
			t.Fatalf("of %v: %d", want, h.Least())
		}
	}
}

// TestPopKeepsNothing: a row that has left must not be held by spare room.
func TestPopKeepsNothing(t *testing.T) {
	h := New(func(a, b *int) bool { return *a < *b })
	for n := range 9 {
		h.Push(&n)
	}
	for h.Len() > 0 {
		h.Pop()
	}
	for _, p := range h.items[:cap(h.items)] {
		if p != nil {
			t.Errorf("%d is still held", *p)
		}
	}
}
