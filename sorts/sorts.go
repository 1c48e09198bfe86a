// Package sorts puts rows into the order of keys, with no more of them in
// memory than the budget lets in: the others wait in runs on the disk.
package sorts

import (
	"spillway/api"
	"spillway/disk"
	"spillway/heaps"
	"spillway/order"
	"spillway/records"
	"spillway/runs"
)

// Sorter takes rows by Add, then End, and gives them by Next; or it takes them
// by Add, and gives them, as often as is asked for, by EndInOne. It has files,
// until Close.
type Sorter struct {
	shelf runs.Shelf
	keys  []api.Key
	count int // how many rows are wanted at most
	most  int // bytes of rows in the heap
	fan   int // runs that are merged at one time

	heap   *heaps.Heap[entry]
	held   int            // bytes of rows in the heap now
	came   int            // rows that were added
	run    int            // the number of the run that is being written
	length int            // rows in it
	last   records.Record // the last one that left the heap for it

	runs  []*runs.Run
	merge *merge
	given int
}

// entry is a record in the heap, and the number of the run it is for.
type entry struct {
	records.Record
	run, size int
}

// New makes a sorter for the first count rows by some keys. It takes half of
// the budget for rows, and half for the blocks of runs that are merged: the
// rows may come from another sorter, which is merging while this one fills.
func New(c api.Config, d *disk.Disk, keys []api.Key, count int) *Sorter {
	half := c.Budget / 2
	s := &Sorter{
		shelf: runs.Shelf{Disk: d, Block: c.Block},
		keys:  keys,
		count: count,
		most:  half,
		fan:   min(c.Fan, half/c.Block),
	}
	s.heap = heaps.New(func(a, b entry) bool {
		if a.run != b.run {
			return a.run < b.run
		}
		return s.ahead(a.Record, b.Record)
	})
	return s
}

// ahead holds the records' numbers against each other where the keys are
// alike, so that no two records are.
func (s *Sorter) ahead(a, b records.Record) bool {
	if way := order.Compare(a.Row, b.Row, s.keys); way != 0 {
		return way < 0
	}
	return a.Number < b.Number
}

// Add takes the next row, which fits into a block. If there is no room for it
// in the heap the least ones leave for the run that is being written. A row
// that is ahead of one that has left already must wait for the next run.
func (s *Sorter) Add(row api.Row) {
	e := entry{Record: records.Record{Number: s.came, Row: row}, size: records.Size(row)}
	s.came++
	for s.held+e.size > s.most {
		s.spill()
	}
	e.run = s.run
	if len(s.runs) > 0 && s.ahead(e.Record, s.last) {
		e.run++
	}
	s.held += e.size
	s.heap.Push(e)
}

func (s *Sorter) pop() entry {
	e := s.heap.Pop()
	s.held -= e.size
	return e
}

// spill writes the least row of the heap. What stands behind the first count
// rows of its run stands behind the first count rows of all: it is left out.
func (s *Sorter) spill() {
	e := s.pop()
	if len(s.runs) == 0 || e.run > s.run {
		s.endRun()
		s.runs = append(s.runs, s.shelf.New())
		s.run, s.length = e.run, 0
	}
	s.last = e.Record
	if s.length < s.count {
		s.runs[len(s.runs)-1].Add(e.Record)
		s.length++
	}
}

func (s *Sorter) endRun() {
	if len(s.runs) > 0 {
		s.runs[len(s.runs)-1].End()
	}
}

// End says that no more rows come. If none had to be written, none will be.
func (s *Sorter) End() {
	if len(s.runs) == 0 {
		return
	}
	s.spillAll()
	s.mergeToFan()
	s.merge = newMerge(s.runs, s.ahead)
}

func (s *Sorter) spillAll() {
	for s.heap.Len() > 0 {
		s.spill()
	}
	s.endRun()
}

// Next is the next row by the keys; false, if there is none.
func (s *Sorter) Next() (api.Row, bool) {
	if s.given == s.count {
		return nil, false
	}
	s.given++
	if s.merge != nil {
		record, ok := s.merge.next()
		return record.Row, ok
	}
	if s.heap.Len() == 0 {
		return nil, false
	}
	return s.pop().Row, true
}

// Close gives all files back.
func (s *Sorter) Close() { deleteAll(s.runs) }
