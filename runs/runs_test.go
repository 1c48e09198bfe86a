package runs

import (
	"testing"

	"spillway/api"
	"spillway/disk"
	"spillway/records"
)

// gaveUp is what something gave up with, or OK.
func gaveUp(do func()) (e api.Errno) {
	defer func() {
		if why := recover(); why != nil {
			e = why.(api.Errno)
		}
	}()
	do()
	return api.OK
}

func record(n int) records.Record {
	return records.Record{Number: n, Row: api.Row{{Kind: api.Int, N: -n}, {Kind: api.Text, S: "text"}}}
}

func TestReaderGivesWhatWasAdded(t *testing.T) {
	for n := range 20 {
		shelf := Shelf{Disk: disk.New(100, 100), Block: 64}
		run := shelf.New()
		for i := range n {
			run.Add(record(i))
		}
		run.End()
		reader := run.Reader()
		for i := range n {
			if got, ok := reader.Next(); !ok || got.Number != i || got.Row[0].N != -i {
				t.Fatalf("record %d of %d: %v, %v", i, n, got, ok)
			}
		}
		if got, ok := reader.Next(); ok {
			t.Errorf("one more than %d: %v", n, got)
		}
		run.Delete()
		run.Delete()
		if shelf.Disk.Used() != 0 || shelf.Disk.Files() != 0 {
			t.Errorf("%d blocks and %d files are left", shelf.Disk.Used(), shelf.Disk.Files())
		}
	}
}

// TestBlocksOfOtherPlaces: a block that is whole, but not the one that was
// asked for, is a broken one.
func TestBlocksOfOtherPlaces(t *testing.T) {
	text := seal(3, 5, []byte("body"))
	if e := gaveUp(func() { opened(3, 5, text) }); e != api.OK {
		t.Errorf("the block itself: %d", e)
	}
	for _, at := range [][2]int{{3, 4}, {3, 6}, {2, 5}, {4, 5}, {5, 3}} {
		if e := gaveUp(func() { opened(at[0], at[1], text) }); e != api.ErrBroken {
			t.Errorf("block %d of file %d: %d", at[1], at[0], e)
		}
	}
}

func TestBlocksThatWereCut(t *testing.T) {
	text := seal(1, 0, []byte("body"))
	for n := range len(text) {
		for _, cut := range []string{text[:n], text[n+1:], text[:n] + text[n+1:], text + text[n:]} {
			if e := gaveUp(func() { opened(1, 0, cut) }); e != api.ErrBroken {
				t.Errorf("%q: %d", cut, e)
			}
		}
	}
}

func TestBlocksWithOtherBytes(t *testing.T) {
	text := seal(1, 0, []byte("body"))
	for at := range len(text) {
		for change := 1; change < 256; change++ {
			other := []byte(text)
			other[at] ^= byte(change)
			if e := gaveUp(func() { opened(1, 0, string(other)) }); e != api.ErrBroken {
				t.Errorf("byte %d changed by %d: %d", at, change, e)
			}
		}
	}
}
