// Package heaps: heaps, sifted by what their makers say comes ahead.
package heaps

// Heap has its least item, of which no other is ahead, at hand.
type Heap[T any] struct {
	items []T
	ahead func(a, b T) bool
}

// New makes an empty heap.
func New[T any](ahead func(a, b T) bool) *Heap[T] {
	return &Heap[T]{ahead: ahead}
}

// Len tells how many items the heap has.
func (h *Heap[T]) Len() int { return len(h.items) }

// Least is the least item of a heap that is not empty.
func (h *Heap[T]) Least() T { return h.items[0] }

// Push puts an item in.
func (h *Heap[T]) Push(item T) {
	h.items = append(h.items, item)
	h.siftUp(len(h.items) - 1)
}

// Replace takes the least item out of a heap that is not empty, and puts
// another one in its place: one way down, where Pop and Push would go two.
func (h *Heap[T]) Replace(item T) {
	h.items[0] = item
	h.siftDown(0)
}

// Pop takes the least item out of a heap that is not empty.
func (h *Heap[T]) Pop() T {
	least := h.items[0]
	last := len(h.items) - 1
	h.items[0] = h.items[last]
	// What the item points to must not be kept alive by the spare room.
	clear(h.items[last:])
	h.items = h.items[:last]
	h.siftDown(0)
	return least
}

func (h *Heap[T]) siftUp(at int) {
	for at > 0 {
		above := (at - 1) / 2
		if !h.ahead(h.items[at], h.items[above]) {
			return
		}
		h.items[at], h.items[above] = h.items[above], h.items[at]
		at = above
	}
}

func (h *Heap[T]) siftDown(at int) {
	for {
		least := at
		for below := 2*at + 1; below <= 2*at+2 && below < len(h.items); below++ {
			if h.ahead(h.items[below], h.items[least]) {
				least = below
			}
		}
		if least == at {
			return
		}
		h.items[at], h.items[least] = h.items[least], h.items[at]
		at = least
	}
}
