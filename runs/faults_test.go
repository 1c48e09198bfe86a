package runs

import (
	"testing"

	"spillway/api"
	"spillway/disk"
)

// Two records of record's fill a block of 64 bytes: so these are ten blocks.
const manyRecords, theirBlocks = 20, 10

func filled(shelf Shelf) *Run {
	run := shelf.New()
	for i := range manyRecords {
		run.Add(record(i))
	}
	run.End()
	return run
}

// readUntil tells how many records come, each as it was added, until the run
// ends or gives up, and with what.
func readUntil(t *testing.T, run *Run) (int, api.Errno) {
	t.Helper()
	count := 0
	e := gaveUp(func() {
		reader := run.Reader()
		for got, ok := reader.Next(); ok; got, ok = reader.Next() {
			if got.Number != count || got.Row[0].N != -count || got.Row[1].S != "text" {
				t.Errorf("record %d: %v", count, got)
			}
			count++
		}
	})
	return count, e
}

func TestAppendsThatFail(t *testing.T) {
	for n := 1; n <= theirBlocks+1; n++ {
		want := api.ErrFail
		if n > theirBlocks {
			want = api.OK
		}
		shelf := Shelf{Disk: disk.New(64, 100), Block: 64}
		shelf.Disk.Fault(1, n, 0)
		if e := gaveUp(func() { filled(shelf) }); e != want || shelf.Disk.Used() != n-1 {
			t.Errorf("append %d fails: %d, %d blocks are written", n, e, shelf.Disk.Used())
		}
	}
}

func TestDisksThatAreFull(t *testing.T) {
	for blocks := range theirBlocks + 1 {
		want := api.ErrFull
		if blocks == theirBlocks {
			want = api.OK
		}
		shelf := Shelf{Disk: disk.New(64, blocks), Block: 64}
		if e := gaveUp(func() { filled(shelf) }); e != want || shelf.Disk.Used() != blocks {
			t.Errorf("a disk of %d blocks: %d, %d are written", blocks, e, shelf.Disk.Used())
		}
	}
}

func TestReadsThatFail(t *testing.T) {
	run := filled(Shelf{Disk: disk.New(64, 100), Block: 64})
	for n := 1; n <= theirBlocks; n++ {
		run.shelf.Disk.Fault(2, n, 0)
		if count, e := readUntil(t, run); e != api.ErrFail || count != 2*(n-1) {
			t.Errorf("read %d fails: %d records, %d", n, count, e)
		}
		if count, e := readUntil(t, run); e != api.OK || count != manyRecords {
			t.Errorf("read again: %d records, %d", count, e)
		}
	}
}

// TestTurnedBits: no record of the block comes, and all those ahead of it do.
func TestTurnedBits(t *testing.T) {
	for n := 1; n <= theirBlocks; n++ {
		for bit := range 8 * 64 {
			shelf := Shelf{Disk: disk.New(64, 100), Block: 64}
			shelf.Disk.Fault(3, n, bit)
			if count, e := readUntil(t, filled(shelf)); e != api.ErrBroken || count != 2*(n-1) {
				t.Fatalf("bit %d of block %d is turned: %d records, %d", bit, n, count, e)
			}
		}
	}
}
