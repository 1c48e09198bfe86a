package promises

import (
	"math"
	"strings"
	"testing"

	"spillway/api"
	"spillway/disk"
)

func wantErrno(t *testing.T, why string, got, want api.Errno) {
	t.Helper()
	if got != want {
		t.Errorf("%s: %d, want %d", why, got, want)
	}
}

func wantBlock(t *testing.T, d *disk.Disk, file, n int, text string, e api.Errno) {
	t.Helper()
	if got, gotErrno := d.Read(file, n); got != text || gotErrno != e {
		t.Errorf("block %d of file %d: %q, %d, want %q, %d", n, file, got, gotErrno, text, e)
	}
}

func wantCounts(t *testing.T, d *disk.Disk, used, files, wrote int) {
	t.Helper()
	if d.Used() != used || d.Files() != files || d.Wrote() != wrote {
		t.Errorf("P2: %d used, %d files, %d wrote, want %d, %d, %d", d.Used(), d.Files(), d.Wrote(), used, files, wrote)
	}
}

func TestDiskKeepsBlocks(t *testing.T) {
	d := disk.New(4, 3)
	wantCounts(t, d, 0, 0, 0)
	a, b := d.Create(), d.Create()
	if a != 1 || b != 2 || d.Block() != 4 {
		t.Errorf("P2: files %d and %d, blocks of %d bytes", a, b, d.Block())
	}
	wantErrno(t, "P2: a whole block", d.Append(a, "abcd"), api.OK)
	wantErrno(t, "P2: too long a text", d.Append(a, "abcde"), api.ErrBlock)
	wantErrno(t, "P2: no such file", d.Append(3, "x"), api.ErrBlock)
	wantErrno(t, "P2: an empty block", d.Append(a, ""), api.OK)
	wantErrno(t, "P2: another file", d.Append(b, "x"), api.OK)
	wantErrno(t, "P2: no free block", d.Append(b, "y"), api.ErrFull)
	wantErrno(t, "P2: no free block and too long a text", d.Append(b, "abcde"), api.ErrBlock)
	wantCounts(t, d, 3, 2, 3)
	wantBlock(t, d, a, 0, "abcd", api.OK)
	wantBlock(t, d, a, 1, "", api.OK)
	wantBlock(t, d, b, 0, "x", api.OK)
	wantBlock(t, d, a, 2, "", api.ErrBlock)
	wantBlock(t, d, a, -1, "", api.ErrBlock)
	wantBlock(t, d, 3, 0, "", api.ErrBlock)
	wantErrno(t, "P2: a file is deleted", d.Delete(a), api.OK)
	wantErrno(t, "P2: and again", d.Delete(a), api.ErrBlock)
	wantBlock(t, d, a, 0, "", api.ErrBlock)
	wantCounts(t, d, 1, 1, 3)
	if c := d.Create(); c != 3 {
		t.Errorf("P2: the third file is %d", c)
	}
	wantErrno(t, "P2: blocks are free again", d.Append(3, "z"), api.OK)
	wantCounts(t, d, 2, 2, 4)
}

func TestDiskOfNothing(t *testing.T) {
	for _, n := range []int{0, -1, math.MinInt} {
		d := disk.New(n, n)
		file := d.Create()
		if d.Block() != 1 {
			t.Errorf("P2: blocks of %d bytes", d.Block())
		}
		wantErrno(t, "P2: a disk with no blocks", d.Append(file, "a"), api.ErrFull)
	}
}

func TestDiskFails(t *testing.T) {
	d := disk.New(4, 9)
	file := d.Create()
	d.Fault(1, 2, 0)
	wantErrno(t, "P3: ahead of the fault", d.Append(file, "a"), api.OK)
	wantErrno(t, "P3: the fault", d.Append(file, "b"), api.ErrFail)
	wantErrno(t, "P3: behind the fault", d.Append(file, "c"), api.OK)
	wantBlock(t, d, file, 1, "c", api.OK)
	wantCounts(t, d, 2, 1, 2)
	d.Fault(2, 1, 0)
	wantBlock(t, d, file, 0, "", api.ErrFail)
	wantBlock(t, d, file, 0, "a", api.OK)
	d.Fault(1, 2, 0)
	wantErrno(t, "P3: one that is refused counts", d.Append(99, "x"), api.ErrBlock)
	wantErrno(t, "P3: the fault", d.Append(file, "x"), api.ErrFail)
	d.Fault(1, 1, 0)
	d.Fault(1, 0, 0)
	wantErrno(t, "P3: taken back", d.Append(file, "d"), api.OK)
	d.Fault(2, 1, 0)
	d.Fault(2, 2, 0)
	wantBlock(t, d, file, 0, "a", api.OK)
	wantBlock(t, d, file, 0, "", api.ErrFail)
}

func TestDiskTurnsBits(t *testing.T) {
	for _, bit := range []int{0, 1, 7, 8, 15, 16, -1, math.MaxInt, math.MinInt} {
		d := disk.New(4, 9)
		file := d.Create()
		d.Fault(3, 2, bit)
		for _, text := range []string{"ab", "ab", "ab"} {
			wantErrno(t, "P3: an append", d.Append(file, text), api.OK)
		}
		at := (bit%16 + 16) % 16
		broken := []byte("ab")
		broken[at/8] ^= 1 << (at % 8)
		wantBlock(t, d, file, 0, "ab", api.OK)
		wantBlock(t, d, file, 1, string(broken), api.OK)
		wantBlock(t, d, file, 2, "ab", api.OK)
		d.Fault(3, 1, bit)
		wantErrno(t, "P3: an empty text", d.Append(file, ""), api.OK)
		wantBlock(t, d, file, 3, "", api.OK)
	}
	for _, kind := range []int{math.MinInt, -1, 0, 4, math.MaxInt} {
		d := disk.New(4, 9)
		d.Fault(kind, 1, 1)
		wantErrno(t, "P3: no such kind", d.Append(d.Create(), strings.Repeat("a", 4)), api.OK)
		wantBlock(t, d, 1, 0, "aaaa", api.OK)
	}
}
