package sorts

import (
	"testing"

	"spillway/api"
	"spillway/disk"
)

func number(row api.Row) int { return row[0].N }

// filled is a sorter of so many rows that come back to front.
func filled(t *testing.T, c api.Config, n, count int) *Sorter {
	t.Helper()
	s := New(c, disk.New(c.Block, 1<<20), []api.Key{{}}, count)
	for i := range n {
		s.Add(api.Row{{Kind: api.Int, N: -i}})
		if s.held > c.Budget/2 || s.heap.Len()*17 != s.held {
			t.Fatalf("%d rows of %d bytes are held (%+v)", s.heap.Len(), s.held, c)
		}
	}
	return s
}

// TestMergesWithinFanAndBudget: neither more runs than Fan are merged at one
// time, nor so many that their blocks take more than half of the budget.
func TestMergesWithinFanAndBudget(t *testing.T) {
	for _, x := range []struct {
		c    api.Config
		most int
	}{
		{api.Config{Block: 64, Fan: 2, Budget: 256}, 2}, {api.Config{Block: 64, Fan: 16, Budget: 256}, 2},
		{api.Config{Block: 64, Fan: 3, Budget: 64 * 6}, 3}, {api.Config{Block: 64, Fan: 2, Budget: 1000}, 2},
		{api.Config{Block: 64, Fan: 16, Budget: 1023}, 7}, {api.Config{Block: 64, Fan: 16, Budget: 1 << 12}, 16},
	} {
		s := filled(t, x.c, 2500, 2500)
		s.End()
		if s.fan != x.most || len(s.runs) > x.most || s.merge.heap.Len() > x.most || s.heap.Len() > 0 {
			t.Errorf("fan %d, %d runs, %d of them merged, %d rows in the heap (%+v)", s.fan, len(s.runs), s.merge.heap.Len(), s.heap.Len(), x.c)
		}
		for i := range 2500 {
			if row, ok := s.Next(); !ok || number(row) != i-2499 {
				t.Fatalf("row %d: %v, %v (%+v)", i, row, ok, x.c)
			}
		}
		if row, ok := s.Next(); ok {
			t.Errorf("one more: %v", row)
		}
		if s.shelf.Disk.Files() != len(s.runs) {
			t.Errorf("%d files, %d runs: merged ones are left", s.shelf.Disk.Files(), len(s.runs))
		}
		s.Close()
		if s.shelf.Disk.Files() != 0 || s.shelf.Disk.Used() != 0 {
			t.Error("files are left")
		}
	}
}

// TestRowsInOrderMakeOneRun: the least row is replaced by the next one, so
// that a run goes on for as long as rows come that it may take.
func TestRowsInOrderMakeOneRun(t *testing.T) {
	s := New(api.Config{Block: 64, Fan: 2, Budget: 256}, disk.New(64, 1<<20), []api.Key{{Down: true}}, 2500)
	defer s.Close()
	for i := range 2500 {
		s.Add(api.Row{{Kind: api.Int, N: -i / 7}})
	}
	s.End()
	if len(s.runs) != 1 || s.shelf.Disk.Wrote() > 1250 {
		t.Errorf("%d runs, %d blocks", len(s.runs), s.shelf.Disk.Wrote())
	}
}

// TestFirstRowsAlone: no run has more rows than are wanted.
func TestFirstRowsAlone(t *testing.T) {
	c := api.Config{Block: 64, Fan: 2, Budget: 1024}
	all, few, none := filled(t, c, 2500, 2500), filled(t, c, 2500, 3), filled(t, c, 2500, 0)
	for _, s := range []*Sorter{all, few, none} {
		s.End()
		defer s.Close()
	}
	if 10*few.shelf.Disk.Wrote() > all.shelf.Disk.Wrote() || none.shelf.Disk.Wrote() > 0 {
		t.Errorf("%d, %d and %d blocks", all.shelf.Disk.Wrote(), few.shelf.Disk.Wrote(), none.shelf.Disk.Wrote())
	}
}

// TestWhatFitsIsNotWritten: half of 272 bytes are 8 rows of 17.
func TestWhatFitsIsNotWritten(t *testing.T) {
	for n := range 12 {
		s := filled(t, api.Config{Block: 64, Fan: 2, Budget: 272}, n, n)
		s.End()
		if wrote := s.shelf.Disk.Wrote(); (wrote > 0) != (n > 8) {
			t.Errorf("%d rows: %d blocks were written", n, wrote)
		}
		s.Close()
	}
}

// TestFewAreMergedAtOneTime: of a row that goes through merges of two runs
// each there is a copy for each merge. More than 256 runs make at least 6 of
// them, and two rows fill a block.
func TestFewAreMergedAtOneTime(t *testing.T) {
	c := api.Config{Block: 64, Fan: 2, Budget: 256}
	s := filled(t, c, 2500, 2500)
	defer s.Close()
	first := len(s.runs)
	s.End()
	if wrote := s.shelf.Disk.Wrote(); first < 256 || wrote < 7*2500/2 {
		t.Errorf("%d runs, %d blocks", first, wrote)
	}
}
