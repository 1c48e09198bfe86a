package sorts

import (
	"testing"

	"spillway/api"
)

// passConfigs: at 34 rows of 17 bytes all of them fit, or fill some runs, or
// more than may be merged at one time.
func passConfigs() map[string]api.Config {
	return map[string]api.Config{
		"in memory":    {Block: 64, Fan: 2, Budget: 2 * 17 * 34},
		"in few runs":  {Block: 64, Fan: 16, Budget: 900},
		"in many runs": {Block: 64, Fan: 2, Budget: 256},
	}
}

// TestPassesGoBack: from each place a copy goes on to the end, and the pass
// that was copied does too.
func TestPassesGoBack(t *testing.T) {
	for why, c := range passConfigs() {
		s := filled(t, c, 34, 34)
		pass := s.EndInOne()
		for i := range 34 {
			copied := pass
			for k := i; k < 34; k++ {
				if row, ok := copied.Next(); !ok || number(row) != k-33 {
					t.Fatalf("%s: row %d from %d: %v, %v", why, k, i, row, ok)
				}
			}
			for range 2 {
				if row, ok := copied.Next(); ok {
					t.Fatalf("%s: one more: %v", why, row)
				}
			}
			if row, ok := pass.Next(); !ok || number(row) != i-33 {
				t.Fatalf("%s: row %d: %v, %v", why, i, row, ok)
			}
		}
		s.Close()
		if s.shelf.Disk.Files() != 0 || s.shelf.Disk.Used() != 0 {
			t.Errorf("%s: files are left", why)
		}
	}
}

// TestEndInOneKeepsOneRun: the merged ones are given back at once; what fits
// into memory is not written.
func TestEndInOneKeepsOneRun(t *testing.T) {
	for why, c := range passConfigs() {
		s := filled(t, c, 34, 34)
		s.EndInOne()
		want := 1
		if why == "in memory" {
			want = 0
		}
		if len(s.runs) != want || s.shelf.Disk.Files() != want || s.heap.Len() != 0 {
			t.Errorf("%s: %d runs, %d files, %d rows in the heap", why, len(s.runs), s.shelf.Disk.Files(), s.heap.Len())
		}
		s.Close()
	}
}

func TestPassOfNothing(t *testing.T) {
	s := filled(t, passConfigs()["in many runs"], 0, 34)
	pass := s.EndInOne()
	if row, ok := pass.Next(); ok {
		t.Errorf("a row of none: %v", row)
	}
}

// TestPassOfTheFirstRows: no more than are wanted.
func TestPassOfTheFirstRows(t *testing.T) {
	for why, c := range passConfigs() {
		for count := range 5 {
			s := filled(t, c, 34, count)
			pass, n := s.EndInOne(), 0
			for row, ok := pass.Next(); ok; row, ok = pass.Next() {
				if number(row) != n-33 {
					t.Errorf("%s: row %d: %v", why, n, row)
				}
				n++
			}
			if n != count {
				t.Errorf("%s: %d rows, want %d", why, n, count)
			}
			s.Close()
		}
	}
}

// TestEndInOneMergesFewAtOneTime: as TestFewAreMergedAtOneTime does, with one
// more copy of each row, as those that are left are merged too.
func TestEndInOneMergesFewAtOneTime(t *testing.T) {
	s := filled(t, passConfigs()["in many runs"], 2500, 2500)
	defer s.Close()
	first := len(s.runs)
	s.EndInOne()
	if wrote := s.shelf.Disk.Wrote(); first < 256 || wrote < 8*2500/2 {
		t.Errorf("%d runs, %d blocks", first, wrote)
	}
}
