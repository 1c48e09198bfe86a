package sorts

import (
	"testing"

	"spillway/api"
	"spillway/disk"
)

// faultyRows are more than fit, of which the runs must be merged.
const faultyRows = 60

var faultyConfig = api.Config{Block: 64, Fan: 2, Budget: 256}

// sortedOn sorts rows that come back to front, in one of the two ways there
// are to take them, and tells what it gave up with. The sorter is closed.
func sortedOn(t *testing.T, d *disk.Disk, inOne bool) (e api.Errno) {
	t.Helper()
	s := New(faultyConfig, d, []api.Key{{}}, faultyRows)
	defer func() {
		s.Close()
		if why := recover(); why != nil {
			e = why.(api.Errno)
		}
	}()
	for i := range faultyRows {
		s.Add(api.Row{{Kind: api.Int, N: -i}})
	}
	next := s.Next
	if inOne {
		pass := s.EndInOne()
		next = pass.Next
	} else {
		s.End()
	}
	count := 0
	for row, ok := next(); ok; row, ok = next() {
		count++
		if number(row) != count-faultyRows {
			t.Errorf("row %d: %v", count, row)
		}
	}
	if count != faultyRows {
		t.Errorf("%d rows", count)
	}
	return api.OK
}

// TestSorterGivesUp: each fault at each place, and all blocks are read. What
// is left behind Close is nothing, wherever the sorter was.
func TestSorterGivesUp(t *testing.T) {
	for _, inOne := range []bool{false, true} {
		d := disk.New(64, 1000)
		if e := sortedOn(t, d, inOne); e != api.OK || d.Wrote() < 100 {
			t.Fatalf("%d, %d blocks", e, d.Wrote())
		}
		for kind, want := range map[int]api.Errno{1: api.ErrFail, 2: api.ErrFail, 3: api.ErrBroken} {
			for n := 1; n <= d.Wrote()+1; n++ {
				want := want
				if n > d.Wrote() {
					want = api.OK
				}
				faulty := disk.New(64, 1000)
				faulty.Fault(kind, n, 7*n)
				if e := sortedOn(t, faulty, inOne); e != want {
					t.Errorf("fault %d at %d of %d: %d", kind, n, d.Wrote(), e)
				}
				if faulty.Used() != 0 || faulty.Files() != 0 {
					t.Errorf("fault %d at %d: %d blocks and %d files are left", kind, n, faulty.Used(), faulty.Files())
				}
			}
		}
	}
}

func TestSorterOnASmallDisk(t *testing.T) {
	for _, inOne := range []bool{false, true} {
		full := 0
		for blocks := range 200 {
			d := disk.New(64, blocks)
			switch e := sortedOn(t, d, inOne); {
			case e == api.ErrFull && full == blocks:
				full++
			case e != api.OK:
				t.Errorf("%d blocks: %d", blocks, e)
			}
			if d.Used() != 0 || d.Files() != 0 {
				t.Errorf("%d blocks: %d blocks and %d files are left", blocks, d.Used(), d.Files())
			}
		}
		if full < faultyRows/2 || full > 2*faultyRows {
			t.Errorf("%d blocks are too few", full-1)
		}
	}
}

// TestMergedRunsAreGivenBack: what a merge takes is gone when it ends, however
// it does; and what it makes can be closed.
func TestMergedRunsAreGivenBack(t *testing.T) {
	for n := range 9 {
		s := filled(t, faultyConfig, faultyRows, faultyRows)
		s.spillAll()
		runs := len(s.runs)
		s.shelf.Disk.Fault(1, n, 0)
		func() {
			defer func() { recover() }()
			s.mergeFirst(2)
		}()
		if len(s.runs) != runs-1 || s.shelf.Disk.Files() != runs-1 {
			t.Errorf("fault at %d: %d runs and %d files, were %d", n, len(s.runs), s.shelf.Disk.Files(), runs)
		}
		s.Close()
		if s.shelf.Disk.Files() != 0 || s.shelf.Disk.Used() != 0 {
			t.Errorf("fault at %d: files are left", n)
		}
	}
}
