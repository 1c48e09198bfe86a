package queries

import (
	"testing"

	"spillway/api"
	"spillway/disk"
)

// joins is a plan of two joins with something of all other kinds between them,
// which writes runs, keeps results on the disk, and reads all of them.
func joins() ([]api.Table, []api.Node, api.Config) {
	table := api.Table{Name: "t", Kinds: []int{api.Int, api.Int}}
	for i := range 30 {
		table.Rows = append(table.Rows, api.Row{{Kind: api.Int, N: i * 7 % 30}, {Kind: api.Int, N: i}})
	}
	on, scan := []int{0}, api.Node{Op: api.Scan, Table: "t"}
	return []api.Table{table}, []api.Node{
		scan, {Op: api.Distinct}, scan, {Op: api.Group, Left: 2, Cols: on, Sums: []api.Sum{{Op: api.Count}}},
		{Op: api.Outer, Left: 1, Right: 3, Cols: on, Others: on},
		scan, {Op: api.Sort, Left: 5, Keys: []api.Key{{Col: 1, Down: true}}}, {Op: api.Group, Left: 6, Cols: on},
		{Op: api.Join, Left: 7, Right: 4, Cols: on, Others: on}, {Op: api.Top, Left: 8, Keys: []api.Key{{Col: 1}}, Count: 100},
	}, api.Config{Block: 80, Fan: 2, Budget: 320}
}

// answered is what Answer gave up with, if it did, and how many rows it gave.
func answered(d *disk.Disk) (count int, e api.Errno) {
	defer func() {
		if why := recover(); why != nil {
			e = why.(api.Errno)
		}
	}()
	tables, plan, c := joins()
	return len(Answer(tables, plan, c, d)), api.OK
}

// TestAnswerGivesUp: with just the fault's error; and all files are given back
// on the way out, ahead of whoever catches it.
func TestAnswerGivesUp(t *testing.T) {
	d := disk.New(80, 1000)
	if rows, e := answered(d); rows != 30 || e != api.OK || d.Wrote() < 200 {
		t.Fatalf("%d rows, %d; %d blocks were written", rows, e, d.Wrote())
	}
	for kind, want := range map[int]api.Errno{1: api.ErrFail, 2: api.ErrFail, 3: api.ErrBroken} {
		for n := 1; n <= d.Wrote(); n++ {
			faulty := disk.New(80, 1000)
			faulty.Fault(kind, n, 3*n)
			if rows, e := answered(faulty); rows != 0 || e != want {
				t.Errorf("fault %d at %d of %d: %d rows, %d", kind, n, d.Wrote(), rows, e)
			}
			if faulty.Used() != 0 || faulty.Files() != 0 {
				t.Errorf("fault %d at %d: %d blocks and %d files are left", kind, n, faulty.Used(), faulty.Files())
			}
		}
	}
}

func TestAnswerOnASmallDisk(t *testing.T) {
	full := 0
	for blocks := range 300 {
		d := disk.New(80, blocks)
		switch rows, e := answered(d); {
		case e == api.ErrFull && rows == 0 && full == blocks:
			full++
		case e != api.OK || rows != 30:
			t.Errorf("%d blocks: %d rows, %d", blocks, rows, e)
		}
		if d.Used() != 0 || d.Files() != 0 {
			t.Errorf("%d blocks: %d blocks and %d files are left", blocks, d.Used(), d.Files())
		}
	}
	if full < 20 || full == 300 {
		t.Errorf("%d disks were too small", full)
	}
}

// TestStoredIsGivenBack: by whoever has taken it, to its end or not, and else
// by giveBack.
func TestStoredIsGivenBack(t *testing.T) {
	tables, _, c := joins()
	for _, taken := range []int{-1, 0, 7, 30} {
		q := &query{tables: tables, config: c, disk: disk.New(80, 1000)}
		rows := q.stored(q.scanned("t").rows)
		if q.disk.Files() != 1 || q.disk.Used() == 0 {
			t.Errorf("%d blocks and %d files wait", q.disk.Used(), q.disk.Files())
		}
		if taken >= 0 {
			count := 0
			for range rows {
				if count == taken {
					break
				}
				count++
			}
			if count != taken || q.disk.Files() != 0 {
				t.Errorf("%d of %d rows were taken; %d files are left", count, taken, q.disk.Files())
			}
		}
		q.giveBack()
		if q.disk.Files() != 0 || q.disk.Used() != 0 {
			t.Errorf("%d blocks and %d files are left", q.disk.Used(), q.disk.Files())
		}
	}
}
