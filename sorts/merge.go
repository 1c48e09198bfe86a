package sorts

import (
	"spillway/heaps"
	"spillway/records"
	"spillway/runs"
)

// merge goes through some runs at one time, by a heap of them.
type merge struct {
	heap *heaps.Heap[*cursor]
}

// cursor is a run that is being read, and its first record that was not given.
type cursor struct {
	*runs.Reader
	first records.Record
}

func newMerge(group []*runs.Run, ahead func(a, b records.Record) bool) *merge {
	m := &merge{heap: heaps.New(func(a, b *cursor) bool { return ahead(a.first, b.first) })}
	for _, run := range group {
		c := &cursor{Reader: run.Reader()}
		if c.advance() {
			m.heap.Push(c)
		}
	}
	return m
}

func (c *cursor) advance() bool {
	record, ok := c.Next()
	c.first = record
	return ok
}

// next is the least of the runs' first records; false, if there is none.
func (m *merge) next() (records.Record, bool) {
	if m.heap.Len() == 0 {
		return records.Record{}, false
	}
	c := m.heap.Least()
	record := c.first
	if c.advance() {
		m.heap.Replace(c)
	} else {
		m.heap.Pop()
	}
	return record, true
}

// mergeToFan merges runs until those that are left can be merged at one time.
// The last merge takes only as many as it must.
func (s *Sorter) mergeToFan() {
	for len(s.runs) > s.fan {
		s.mergeFirst(min(s.fan, len(s.runs)-s.fan+1))
	}
}

// mergeFirst puts one run in the place of the first ones. The new one stands
// among the sorter's ahead of anything that can go wrong, so that Close
// reaches it.
func (s *Sorter) mergeFirst(n int) {
	group := s.runs[:n:n]
	defer deleteAll(group)
	into := s.shelf.New()
	s.runs = append(s.runs[n:], into)
	m := newMerge(group, s.ahead)
	for range s.count {
		record, ok := m.next()
		if !ok {
			break
		}
		into.Add(record)
	}
	into.End()
}

func deleteAll(group []*runs.Run) {
	for _, run := range group {
		run.Delete()
	}
}
