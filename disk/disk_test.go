package disk

import (
	"bytes"
	"math"
	"testing"

	"purse/api"
)

// full is a block of one byte all over.
func full(v byte) []byte { return bytes.Repeat([]byte{v}, api.BlockSize) }

// torn is a block that begins with n bytes v, and goes on with bytes w.
func torn(n int, v, w byte) []byte { return append(full(v)[:n:n], full(w)[n:]...) }

// fresh is a disk of so many blocks.
func fresh(t *testing.T, blocks int) *Disk {
	t.Helper()
	d, e := New(blocks)
	if d == nil || e != api.OK {
		t.Fatalf("New(%d): error %d", blocks, e)
	}
	return d
}

// want fails, if a call has answered another error.
func want(t *testing.T, what string, got, e api.Errno) {
	t.Helper()
	if got != e {
		t.Errorf("%s: error %d; want %d", what, got, e)
	}
}

// shows fails, if a block is shown otherwise.
func shows(t *testing.T, d *Disk, at int, b []byte) {
	t.Helper()
	got, e := d.Read(at)
	if e != api.OK || !bytes.Equal(got, b) {
		t.Errorf("block %d: error %d, %x; want %x", at, e, got, b)
	}
}

// stands fails, if the disk is not up or down as told, or others wait.
func stands(t *testing.T, d *Disk, down bool, waiting int) {
	t.Helper()
	if d.Down() != down || d.Waiting() != waiting {
		t.Errorf("down %v, %d waiting; want %v, %d", d.Down(), d.Waiting(), down, waiting)
	}
}

func TestP4_1New(t *testing.T) {
	for _, n := range []int{1, 2, api.MaxBlocks - 1, api.MaxBlocks} {
		d := fresh(t, n)
		if d.Size() != n {
			t.Errorf("New(%d): %d blocks", n, d.Size())
		}
		stands(t, d, false, 0)
		for at := range n {
			if b, e := d.Read(at); e != api.OK || !bytes.Equal(b, full(0)) {
				t.Fatalf("New(%d): block %d: error %d, %x; want 0s", n, at, e, b)
			}
		}
	}
	for _, n := range []int{0, -1, math.MinInt, api.MaxBlocks + 1, math.MaxInt} {
		if d, e := New(n); d != nil || e != api.ErrArg {
			t.Errorf("New(%d): error %d; want %d, and no disk", n, e, api.ErrArg)
		}
	}
}

func TestP4_1SizeStays(t *testing.T) {
	d := fresh(t, 3)
	d.Write(2, full(1))
	d.Crash(7)
	if d.Size() != 3 {
		t.Errorf("Size of one that is down: %d; want 3", d.Size())
	}
}

func TestP4_2WriteReadSync(t *testing.T) {
	d := fresh(t, 3)
	want(t, "Sync of nothing", d.Sync(), api.OK)
	want(t, "Write", d.Write(0, full(1)), api.OK)
	want(t, "Write of the last", d.Write(2, full(2)), api.OK)
	want(t, "Write again", d.Write(0, full(3)), api.OK)
	stands(t, d, false, 3)
	for range 2 {
		shows(t, d, 0, full(3))
		shows(t, d, 1, full(0))
		shows(t, d, 2, full(2))
		want(t, "Sync", d.Sync(), api.OK)
		stands(t, d, false, 0)
	}
	d.Crash()
	d.Start()
	shows(t, d, 0, full(3))
	shows(t, d, 1, full(0))
	shows(t, d, 2, full(2))
}

func TestP4_2EachByteOfABlock(t *testing.T) {
	b := make([]byte, api.BlockSize)
	for i := range b {
		b[i] = byte(i*3 + 1)
	}
	d := fresh(t, api.MaxBlocks)
	for _, at := range []int{0, 1, api.MaxBlocks / 2, api.MaxBlocks - 1} {
		want(t, "Write", d.Write(at, b), api.OK)
		shows(t, d, at, b)
	}
	d.Sync()
	d.Crash()
	d.Start()
	shows(t, d, api.MaxBlocks-1, b)
	shows(t, d, 2, full(0))
}

func TestP4_2Range(t *testing.T) {
	for _, n := range []int{1, 2, api.MaxBlocks} {
		d := fresh(t, n)
		want(t, "Write of the last", d.Write(n-1, full(1)), api.OK)
		shows(t, d, n-1, full(1))
		for _, at := range []int{-1, n, n + 1, math.MinInt, math.MaxInt} {
			want(t, "Write outside", d.Write(at, full(2)), api.ErrRange)
			want(t, "Write outside, of a wrong length", d.Write(at, nil), api.ErrRange)
			if b, e := d.Read(at); e != api.ErrRange || len(b) != 0 {
				t.Errorf("Read(%d) of %d blocks: error %d, %x; want %d", at, n, e, b, api.ErrRange)
			}
		}
		stands(t, d, false, 1)
		shows(t, d, n-1, full(1))
	}
}

func TestP4_2Length(t *testing.T) {
	d := fresh(t, 1)
	want(t, "Write", d.Write(0, full(1)), api.OK)
	wrong := [][]byte{nil, {}, {2}, full(2)[:api.BlockSize-1], append(full(2), 2), append(full(2), full(2)...)}
	for _, b := range wrong {
		want(t, "Write of a wrong length", d.Write(0, b), api.ErrArg)
		stands(t, d, false, 1)
		shows(t, d, 0, full(1))
	}
	want(t, "Write of what has room behind", d.Write(0, append(full(3), 9)[:api.BlockSize]), api.OK)
	shows(t, d, 0, full(3))
}

func TestP4_2Down(t *testing.T) {
	d := fresh(t, 1)
	d.Write(0, full(1))
	d.Sync()
	d.Arm(1)
	d.Write(0, full(2))
	for range 2 {
		for _, at := range []int{-1, 0, 1} {
			want(t, "Write", d.Write(at, full(3)), api.ErrDown)
			want(t, "Write of nil", d.Write(at, nil), api.ErrDown)
			if b, e := d.Read(at); e != api.ErrDown || len(b) != 0 {
				t.Errorf("Read(%d): error %d, %x; want %d", at, e, b, api.ErrDown)
			}
		}
		want(t, "Sync", d.Sync(), api.ErrDown)
		want(t, "Arm(1)", d.Arm(1), api.ErrDown)
		want(t, "Arm(0)", d.Arm(0), api.ErrDown)
		stands(t, d, true, 1)
	}
	d.Start()
	shows(t, d, 0, full(1))
}

func TestP4_5Nil(t *testing.T) {
	var d *Disk
	want(t, "Write", d.Write(0, full(1)), api.ErrNil)
	want(t, "Write outside", d.Write(-1, nil), api.ErrNil)
	if b, e := d.Read(0); e != api.ErrNil || len(b) != 0 {
		t.Errorf("Read: error %d, %x; want %d", e, b, api.ErrNil)
	}
	if b, e := d.Read(-1); e != api.ErrNil || len(b) != 0 {
		t.Errorf("Read(-1): error %d, %x; want %d", e, b, api.ErrNil)
	}
	want(t, "Sync", d.Sync(), api.ErrNil)
	want(t, "Arm", d.Arm(1), api.ErrNil)
	want(t, "Arm of none", d.Arm(-1), api.ErrNil)
	want(t, "Crash", d.Crash(), api.ErrNil)
	want(t, "Crash with numbers", d.Crash(1, 2), api.ErrNil)
	want(t, "Start", d.Start(), api.ErrNil)
	if d.Size() != 0 || d.Waiting() != 0 || d.Down() || d.Fork() != nil {
		t.Error("Size, Waiting, Down or Fork of a nil disk is not zero")
	}
}

func TestP4_5Fork(t *testing.T) {
	d := fresh(t, 2)
	d.Write(0, full(1))
	d.Write(1, full(2))
	f := d.Fork()
	if f.Size() != 2 {
		t.Errorf("a fork of 2 blocks has %d", f.Size())
	}
	stands(t, f, false, 2)
	shows(t, f, 0, full(1))
	shows(t, f, 1, full(2))
	d.Sync()
	d.Write(0, full(3))
	stands(t, f, false, 2)
	shows(t, f, 0, full(1))
	f.Write(1, full(4))
	f.Crash(0, 9, 5)
	stands(t, d, false, 1)
	f.Start()
	shows(t, f, 0, full(0))
	shows(t, f, 1, append(full(4)[:5:5], torn(4, 2, 0)[:api.BlockSize-5]...))
	shows(t, d, 0, full(3))
	shows(t, d, 1, full(2))
	d.Crash()
	d.Start()
	shows(t, d, 0, full(1))
	shows(t, d, 1, full(2))
}

// Both of them append behind the same writes: neither may see the other's.
func TestP4_5ForksWriteSideBySide(t *testing.T) {
	d := fresh(t, 1)
	for i := range 20 {
		f := d.Fork()
		f.Write(0, full(101))
		want(t, "Write", d.Write(0, full(byte(i+1))), api.OK)
		f.Write(0, full(102))
		g := f.Fork()
		keep := make([]int, i+2)
		keep[i] = api.BlockSize
		g.Crash(keep...)
		g.Start()
		shows(t, g, 0, full(101))
	}
	d.Sync()
	shows(t, d, 0, full(20))
}

func TestP4_5ForkOfOneThatIsArmed(t *testing.T) {
	d := fresh(t, 1)
	d.Arm(3)
	want(t, "Write", d.Write(0, full(1)), api.OK)
	f, g := d.Fork(), d.Fork()
	want(t, "the second of the fork", f.Write(0, full(2)), api.OK)
	want(t, "the third of the fork", f.Sync(), api.ErrDown)
	stands(t, f, true, 2)
	stands(t, d, false, 1)
	want(t, "Arm(0) of the other fork", g.Arm(0), api.OK)
	want(t, "the second", d.Sync(), api.OK)
	want(t, "the third", d.Write(0, full(3)), api.ErrDown)
	stands(t, d, true, 1)
	for range 4 {
		want(t, "Write of a fork that none hits", g.Write(0, full(4)), api.OK)
	}
}

func TestP4_5ForkOfOneThatIsDown(t *testing.T) {
	d := fresh(t, 1)
	d.Write(0, full(1))
	d.Arm(1)
	d.Write(0, full(2))
	f := d.Fork()
	stands(t, f, true, 2)
	f.Crash(1, 0)
	d.Start()
	stands(t, f, true, 0)
	f.Start()
	shows(t, f, 0, torn(1, 1, 0))
	shows(t, d, 0, full(0))
}
