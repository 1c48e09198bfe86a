// Package runs keeps rows on a disk, in files of sealed blocks. What goes
// wrong there gives up by panic with the error.
package runs

import (
	"spillway/api"
	"spillway/disk"
	"spillway/records"
)

// Shelf is where runs are kept: a disk, and how many bytes of its blocks may
// be used.
type Shelf struct {
	Disk  *disk.Disk
	Block int
}

// Run is a file of records in the order in which they were added. All of them
// have as many columns.
type Run struct {
	shelf  Shelf
	file   int
	cols   int
	blocks int    // how many blocks are written
	body   []byte // records that are not written yet
}

// New makes an empty run. Whoever asks for one sees to it that it is deleted.
func (s Shelf) New() *Run {
	return &Run{shelf: s, file: s.Disk.Create()}
}

// Add puts a record, whose size is at most the block's without its head, at
// the run's end.
func (r *Run) Add(record records.Record) {
	if Head+len(r.body)+records.Size(record.Row) > r.shelf.Block {
		r.write()
	}
	r.cols = len(record.Row)
	r.body = records.Append(r.body, record)
}

// End says that no more is added; the run can be read then.
func (r *Run) End() {
	if len(r.body) > 0 {
		r.write()
	}
	r.body = nil
}

func (r *Run) write() {
	if e := r.shelf.Disk.Append(r.file, seal(r.file, r.blocks, r.body)); e != api.OK {
		panic(e)
	}
	r.blocks++
	r.body = r.body[:0]
}

// Delete gives the run's file back. The disk has none of it to refuse but one
// that is gone already, so there is nothing to tell.
func (r *Run) Delete() { r.shelf.Disk.Delete(r.file) }

// Reader goes through a run.
type Reader struct {
	run  *Run
	next int    // the block that is read next
	rest string // what is left of the one ahead of it
}

// Reader is at the run's beginning.
func (r *Run) Reader() *Reader { return &Reader{run: r} }

// Next is the next record; false, if there is none.
func (r *Reader) Next() (records.Record, bool) {
	if r.rest == "" && r.next == r.run.blocks {
		return records.Record{}, false
	}
	if r.rest == "" {
		r.rest = r.run.read(r.next)
		r.next++
	}
	var record records.Record
	record, r.rest = records.Take(r.rest, r.run.cols)
	return record, true
}

func (r *Run) read(n int) string {
	text, e := r.shelf.Disk.Read(r.file, n)
	if e != api.OK {
		panic(e)
	}
	return opened(r.file, n, text)
}
