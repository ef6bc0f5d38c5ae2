package wal

import (
	"bytes"
	"fmt"
	"math"
	"math/rand"
	"testing"

	"purse/api"
	"purse/disk"
)

func newDisk(t testing.TB, blocks int) *disk.Disk {
	t.Helper()
	d, e := disk.New(blocks)
	if e != api.OK {
		t.Fatalf("disk.New(%d): error %d", blocks, e)
	}
	return d
}

func open(t testing.TB, d *disk.Disk) *Wal {
	t.Helper()
	w, e := Open(d)
	if e != api.OK || w == nil {
		t.Fatalf("Open: error %d", e)
	}
	return w
}

func again(t testing.TB, d *disk.Disk, keep ...int) *Wal {
	t.Helper()
	d.Crash(keep...)
	d.Start()
	return open(t, d)
}

func want(t testing.TB, what string, got, want api.Errno) {
	t.Helper()
	if got != want {
		t.Fatalf("%s: error %d; want %d", what, got, want)
	}
}

// has holds all that a log tells against the records that it should have.
func has(t testing.TB, what string, w *Wal, first int, l ...string) {
	t.Helper()
	if w.First() != first || w.Next() != first+len(l) {
		t.Fatalf("%s: First %d, Next %d; want %d, %d", what, w.First(), w.Next(), first, first+len(l))
	}
	got := w.Records()
	if len(got) != len(l) {
		t.Fatalf("%s: %d records; want %d", what, len(got), len(l))
	}
	at := 0
	for n, b := range w.All() {
		if n != first+at || string(b) != l[at] || string(got[at]) != l[at] {
			t.Fatalf("%s: the record %d is %.80q, %.80q (told as %d); want %.80q", what, first+at, b, got[at], n, l[at])
		}
		at++
	}
	if at != len(l) {
		t.Fatalf("%s: All told %d records; want %d", what, at, len(l))
	}
}

// fill is n bytes that hang on a seed.
func fill(seed, n int) []byte {
	b := make([]byte, n)
	x := uint64(seed)*0x9E3779B97F4A7C15 + 1
	for i := range b {
		x = x*6364136223846793005 + 1442695040888963407
		b[i] = byte(x >> 56)
	}
	return b
}

// same is whether two disks show the same, and as much of it waits.
func same(a, b *disk.Disk) bool {
	if a.Size() != b.Size() || a.Down() != b.Down() || a.Waiting() != b.Waiting() {
		return false
	}
	for at := range a.Size() {
		x, _ := a.Read(at)
		y, _ := b.Read(at)
		if !bytes.Equal(x, y) {
			return false
		}
	}
	return true
}

func TestP5_1OpenOfNothing(t *testing.T) {
	if w, e := Open(nil); w != nil || e != api.ErrNil {
		t.Errorf("Open(nil): %v, error %d; want nil, 2", w, e)
	}
	d := newDisk(t, 100)
	d.Crash()
	if w, e := Open(d); w != nil || e != api.ErrDown {
		t.Errorf("Open of a disk that is down: %v, error %d; want nil, 40", w, e)
	}
	d.Start()
	has(t, "a disk that was down", open(t, d), 0)
}

func TestP5_1OpenOfAnEmptyDisk(t *testing.T) {
	for _, blocks := range []int{1, 2, 3, 15, 16, 31, 32, 35, 36, 64, 200, api.MaxBlocks} {
		d := newDisk(t, blocks)
		w := open(t, d)
		what := fmt.Sprintf("%d blocks", blocks)
		has(t, what, w, 0)
		want(t, what+": Sync", w.Sync(), api.OK)
		want(t, what+": Cut(0)", w.Cut(0), api.OK)
		want(t, what+": Cut(1)", w.Cut(1), api.ErrArg)
		has(t, what+", again", w, 0)
		has(t, what+", opened again", open(t, d), 0)
	}
}

func TestP5_1OpenOfALog(t *testing.T) {
	d := newDisk(t, 200)
	w := open(t, d)
	want(t, "Append", w.Append([]byte("one")), api.OK)
	want(t, "Append", w.Append([]byte("two")), api.OK)
	has(t, "what waits", open(t, d), 0, "one", "two")
}

func TestTheExample(t *testing.T) {
	for _, keep := range [][]int{nil, {64, 64, 64, 64}, {5}} {
		d := newDisk(t, 100)
		w := open(t, d)
		want(t, "Append(a)", w.Append([]byte("a")), api.OK)
		want(t, "Append(b)", w.Append([]byte("b")), api.OK)
		want(t, "Sync", w.Sync(), api.OK)
		want(t, "Append(c)", w.Append([]byte("c")), api.OK)
		w = again(t, d, keep...)
		l := []string{"a", "b"}
		if w.Next() == 3 {
			l = append(l, "c")
		}
		has(t, "opened", w, 0, l...)
		want(t, "Cut(1)", w.Cut(1), api.OK)
		has(t, "cut", w, 1, l[1:]...)
		has(t, "cut, opened", again(t, d), 1, l[1:]...)
	}
}

func TestP5_2Append(t *testing.T) {
	d := newDisk(t, 2000)
	w := open(t, d)
	var l []string
	for i, n := range []int{0, 1, 2, 33, 34, 35, 46, 47, 48, 63, 64, 65, 128, 1000, api.MaxRecord - 1, api.MaxRecord, 0, 1} {
		b := fill(i, n)
		if w.Next() != i {
			t.Fatalf("Next is %d; want %d", w.Next(), i)
		}
		want(t, fmt.Sprintf("Append of %d bytes", n), w.Append(b), api.OK)
		l = append(l, string(b))
		has(t, fmt.Sprintf("behind %d bytes", n), w, 0, l...)
	}
	want(t, "Append(nil)", w.Append(nil), api.OK)
	l = append(l, "")
	has(t, "all", w, 0, l...)
	want(t, "Sync", w.Sync(), api.OK)
	has(t, "all, synced", w, 0, l...)
	has(t, "all, behind a fall", again(t, d), 0, l...)
}

func TestP5_2AppendOfTooMuch(t *testing.T) {
	d := newDisk(t, 2000)
	w := open(t, d)
	want(t, "Append", w.Append([]byte("x")), api.OK)
	before := d.Fork()
	for _, n := range []int{api.MaxRecord + 1, api.MaxRecord + 64, 100000} {
		want(t, fmt.Sprintf("Append of %d bytes", n), w.Append(make([]byte, n)), api.ErrLong)
	}
	has(t, "refused", w, 0, "x")
	if !same(d, before) {
		t.Error("what is refused is written")
	}
	// It is named ahead of ErrDown and of ErrFull.
	d.Crash()
	want(t, "Append of too much, of a disk that is down", w.Append(make([]byte, api.MaxRecord+1)), api.ErrLong)
	small := open(t, newDisk(t, 10))
	want(t, "Append of too much, without room", small.Append(make([]byte, api.MaxRecord+1)), api.ErrLong)
	want(t, "Append of what is not too much, without room", small.Append(make([]byte, api.MaxRecord)), api.ErrFull)
}

func TestP5_2SyncIsSafe(t *testing.T) {
	d := newDisk(t, 200)
	w := open(t, d)
	var l []string
	for i := range 12 {
		b := fill(i, 9*i)
		want(t, "Append", w.Append(b), api.OK)
		want(t, "Sync", w.Sync(), api.OK)
		l = append(l, string(b))
		f := d.Fork()
		has(t, "behind a fall", again(t, f), 0, l...)
	}
	want(t, "Sync of nothing", w.Sync(), api.OK)
	has(t, "synced twice", again(t, d), 0, l...)
}

// TestP5_2AppendIsNotSafeByItself: what was not synced may be lost, its end first.
func TestP5_2AppendIsNotSafeByItself(t *testing.T) {
	d := newDisk(t, 200)
	w := open(t, d)
	want(t, "Append", w.Append([]byte("a")), api.OK)
	want(t, "Append", w.Append([]byte("b")), api.OK)
	w = again(t, d)
	if w.First() != 0 || w.Next() > 2 {
		t.Errorf("First %d, Next %d", w.First(), w.Next())
	}
}

func TestP5_2Cut(t *testing.T) {
	d := newDisk(t, 200)
	w := open(t, d)
	l := []string{"a", "bb", string(fill(1, 100)), "", "e"}
	for _, b := range l {
		want(t, "Append", w.Append([]byte(b)), api.OK)
	}
	want(t, "Cut(First)", w.Cut(0), api.OK)
	has(t, "Cut(First)", w, 0, l...)
	has(t, "Cut(First), behind a fall", again(t, d.Fork()), 0, l...)
	want(t, "Cut(2)", w.Cut(2), api.OK)
	has(t, "Cut(2)", w, 2, l[2:]...)
	has(t, "Cut(2), behind a fall", again(t, d.Fork()), 2, l[2:]...)
	want(t, "Append", w.Append([]byte("f")), api.OK)
	l = append(l, "f")
	want(t, "Cut(3)", w.Cut(3), api.OK)
	has(t, "Cut(3)", w, 3, l[3:]...)
	has(t, "Cut(3), behind a fall", again(t, d.Fork()), 3, l[3:]...)
	want(t, "Cut(Next)", w.Cut(6), api.OK)
	has(t, "Cut(Next)", w, 6)
	has(t, "Cut(Next), behind a fall", again(t, d.Fork()), 6)
	want(t, "Append", w.Append([]byte("g")), api.OK)
	has(t, "the next one", w, 6, "g")
	want(t, "Sync", w.Sync(), api.OK)
	w = again(t, d)
	has(t, "the next one, behind a fall", w, 6, "g")
	want(t, "Cut", w.Cut(7), api.OK)
	has(t, "cut by a log that was opened", again(t, d), 7)
}

func TestP5_2CutOfNoRecord(t *testing.T) {
	d := newDisk(t, 200)
	w := open(t, d)
	for range 5 {
		want(t, "Append", w.Append([]byte("x")), api.OK)
	}
	want(t, "Cut(2)", w.Cut(2), api.OK)
	want(t, "Append", w.Append([]byte("y")), api.OK)
	before := d.Fork()
	for _, n := range []int{math.MinInt, -1, 0, 1, 7, 8, 100, math.MaxInt} {
		want(t, fmt.Sprintf("Cut(%d)", n), w.Cut(n), api.ErrArg)
		has(t, "refused", w, 2, "x", "x", "x", "y")
	}
	if !same(d, before) {
		t.Error("what is refused is written")
	}
	d.Crash()
	want(t, "Cut below First of a disk that is down", w.Cut(1), api.ErrArg)
	want(t, "Cut above Next of a disk that is down", w.Cut(7), api.ErrArg)
	want(t, "Cut(Next) of a disk that is down", w.Cut(6), api.ErrDown)
}

func TestP5_3ANilLog(t *testing.T) {
	var w *Wal
	want(t, "Append", w.Append([]byte("x")), api.ErrNil)
	want(t, "Append of too much", w.Append(make([]byte, api.MaxRecord+1)), api.ErrNil)
	want(t, "Sync", w.Sync(), api.ErrNil)
	want(t, "Cut", w.Cut(0), api.ErrNil)
	want(t, "Cut of no record", w.Cut(-1), api.ErrNil)
	if w.All() == nil {
		t.Fatal("All of a nil log is nil")
	}
	has(t, "nil", w, 0)
}

func TestP5_3AllAndRecords(t *testing.T) {
	d := newDisk(t, 300)
	w := open(t, d)
	l := []string{"a", "", "ccc", "dddd", "e"}
	for _, b := range l {
		want(t, "Append", w.Append([]byte(b)), api.OK)
	}
	want(t, "Cut(1)", w.Cut(1), api.OK)
	all := w.All()
	for n := range all {
		if n == 3 {
			break
		}
	}
	at := 1
	for n, b := range all {
		if n != at || string(b) != l[at] {
			t.Fatalf("gone through again: %d: %q; want %d: %q", n, b, at, l[at])
		}
		at++
	}
	if at != 5 {
		t.Errorf("gone through again, up to %d", at)
	}
	for n, b := range all {
		for m, c := range all {
			if n == m && !bytes.Equal(b, c) {
				t.Error("one within the other tells another thing")
			}
		}
	}
}

// TestP5_3AllAsItIsWhenItIsAsked: a sequence stays what it was.
func TestP5_3AllAsItIsWhenItIsAsked(t *testing.T) {
	d := newDisk(t, 300)
	w := open(t, d)
	for _, b := range []string{"a", "b", "c"} {
		want(t, "Append", w.Append([]byte(b)), api.OK)
	}
	all := w.All()
	told := func() string {
		s := ""
		for n, b := range all {
			s += fmt.Sprint(n, string(b), " ")
		}
		return s
	}
	want(t, "Append", w.Append([]byte("d")), api.OK)
	if got := told(); got != "0a 1b 2c " {
		t.Errorf("behind an Append: %s", got)
	}
	want(t, "Cut", w.Cut(2), api.OK)
	want(t, "Append", w.Append([]byte("e")), api.OK)
	if got := told(); got != "0a 1b 2c " {
		t.Errorf("behind a Cut: %s", got)
	}
	for n := range w.All() {
		if n < 5 {
			want(t, "Append within", w.Append([]byte("z")), api.OK)
		}
	}
	has(t, "appended within", w, 2, "c", "d", "e", "z", "z", "z")
}

func TestP5_3ALogThatHasFallen(t *testing.T) {
	calls := []struct {
		name string
		call func(*Wal) api.Errno
	}{
		{"Append", func(w *Wal) api.Errno { return w.Append([]byte("y")) }},
		{"Append of nothing", func(w *Wal) api.Errno { return w.Append(nil) }},
		{"Append of much", func(w *Wal) api.Errno { return w.Append(make([]byte, api.MaxRecord)) }},
		{"Sync", func(w *Wal) api.Errno { return w.Sync() }},
		{"Cut(First)", func(w *Wal) api.Errno { return w.Cut(w.First()) }},
		{"Cut(Next)", func(w *Wal) api.Errno { return w.Cut(w.Next()) }},
	}
	for _, first := range calls {
		for _, armed := range []bool{false, true} {
			d := newDisk(t, 2000)
			w := open(t, d)
			want(t, "Append", w.Append([]byte("a")), api.OK)
			want(t, "Append", w.Append([]byte("b")), api.OK)
			want(t, "Cut", w.Cut(1), api.OK)
			if armed {
				d.Arm(1)
			} else {
				d.Crash()
			}
			want(t, first.name, first.call(w), api.ErrDown)
			for _, up := range []bool{false, true} {
				if up {
					d.Start()
				}
				for _, c := range calls {
					want(t, c.name+" behind "+first.name, c.call(w), api.ErrDown)
				}
				want(t, "Append of too much", w.Append(make([]byte, api.MaxRecord+1)), api.ErrLong)
				want(t, "Cut above Next", w.Cut(3), api.ErrArg)
				has(t, "what it did tell", w, 1, "b")
			}
			if d.Waiting() != 0 {
				t.Errorf("behind %s: a log that has fallen writes", first.name)
			}
			w = open(t, d)
			if n := w.Next(); n != 2 && n != 3 || w.First() != 1 && w.First() != 2 {
				t.Errorf("behind %s: First %d, Next %d", first.name, w.First(), n)
			}
			want(t, "Append of a log that was opened anew", w.Append([]byte("z")), api.OK)
			want(t, "Sync of a log that was opened anew", w.Sync(), api.OK)
		}
	}
}

// TestP5_2AFallThatNobodySaw: the disk went down and up again between two
// calls; a Sync must not say that what was lost is safe.
func TestP5_2AFallThatNobodySaw(t *testing.T) {
	fallen := func(keep ...int) (*disk.Disk, *Wal) {
		d := newDisk(t, 200)
		w := open(t, d)
		want(t, "Append", w.Append([]byte("a")), api.OK)
		want(t, "Sync", w.Sync(), api.OK)
		want(t, "Append", w.Append(fill(1, 100)), api.OK)
		d.Crash(keep...)
		d.Start()
		return d, w
	}
	for _, keep := range [][]int{nil, {64}, {64, 64}, {64, 64, 20}, {0, 64, 64}} {
		d, w := fallen(keep...)
		want(t, "Sync", w.Sync(), api.ErrDown)
		want(t, "Sync, once more", w.Sync(), api.ErrDown)
		has(t, "opened", open(t, d), 0, "a")
		d, w = fallen(keep...)
		want(t, "Cut", w.Cut(1), api.ErrDown)
		has(t, "opened", open(t, d), 0, "a")
		d, w = fallen(keep...)
		want(t, "Append", w.Append([]byte("c")), api.OK)
		want(t, "Sync behind an Append", w.Sync(), api.ErrDown)
		has(t, "opened", open(t, d), 0, "a")
	}
	// Nothing was lost: then all of it may be safe.
	d, w := fallen(64, 64, 64, 64)
	if e := w.Sync(); e != api.OK && e != api.ErrDown {
		t.Errorf("Sync: error %d", e)
	}
	has(t, "opened", again(t, d), 0, "a", string(fill(1, 100)))
	// Nothing waited.
	d = newDisk(t, 200)
	w = open(t, d)
	want(t, "Append", w.Append([]byte("a")), api.OK)
	want(t, "Sync", w.Sync(), api.OK)
	d.Crash()
	d.Start()
	want(t, "Append", w.Append([]byte("b")), api.OK)
	want(t, "Cut", w.Cut(1), api.OK)
	has(t, "opened", again(t, d), 1, "b")
}

// TestP5_2ADiskThatOthersSync: a barrier of somebody else takes nothing away.
func TestP5_2ADiskThatOthersSync(t *testing.T) {
	d := newDisk(t, 200)
	w := open(t, d)
	want(t, "Append", w.Append([]byte("a")), api.OK)
	d.Sync()
	want(t, "Append", w.Append([]byte("b")), api.OK)
	want(t, "Sync", w.Sync(), api.OK)
	has(t, "opened", again(t, d), 0, "a", "b")
}

func TestWhatFollowsOpenedTwice(t *testing.T) {
	d := newDisk(t, 400)
	w := open(t, d)
	var l []string
	for i := range 9 {
		b := fill(i, 20*i)
		want(t, "Append", w.Append(b), api.OK)
		l = append(l, string(b))
	}
	want(t, "Cut", w.Cut(3), api.OK)
	want(t, "Append", w.Append([]byte("z")), api.OK)
	l = append(l, "z")
	for range 3 {
		has(t, "opened again", open(t, d), 3, l[3:]...)
	}
	d.Crash(64, 64)
	for range 3 {
		d.Start()
		has(t, "opened again behind a fall", open(t, d), 3, l[3:]...)
		d.Crash()
	}
	d.Start()
	a, b := open(t, d.Fork()), open(t, d.Fork())
	has(t, "a fork", a, 3, l[3:]...)
	has(t, "another one", b, 3, l[3:]...)
}

func TestR3WhatIsHandedIn(t *testing.T) {
	d := newDisk(t, 200)
	w := open(t, d)
	roomy := append(fill(1, 150), fill(2, 100)...)
	was := bytes.Clone(roomy)
	want(t, "Append", w.Append(roomy[:150]), api.OK)
	if !bytes.Equal(roomy, was) {
		t.Error("Append changes what it is handed")
	}
	clear(roomy)
	has(t, "the list is cleared", w, 0, string(was[:150]))
	want(t, "Sync", w.Sync(), api.OK)
	has(t, "the list is cleared", again(t, d), 0, string(was[:150]))
}

func TestR3WhatIsHandedOut(t *testing.T) {
	d := newDisk(t, 400)
	w := open(t, d)
	l := []string{"some", string(fill(1, 150)), "", "bytes"}
	for _, b := range l {
		want(t, "Append", w.Append([]byte(b)), api.OK)
	}
	spoil := func(w *Wal) {
		records := w.Records()
		if cap(records) != len(records) {
			t.Errorf("Records has room for %d behind %d", cap(records), len(records))
		}
		for _, b := range records {
			if cap(b) != len(b) {
				t.Errorf("a record has room for %d behind %d", cap(b), len(b))
			}
			clear(b)
		}
		clear(records)
		for _, b := range w.All() {
			if cap(b) != len(b) {
				t.Errorf("a record of All has room for %d behind %d", cap(b), len(b))
			}
			clear(b)
		}
	}
	spoil(w)
	has(t, "spoiled", w, 0, l...)
	want(t, "Cut", w.Cut(1), api.OK)
	spoil(w)
	has(t, "cut, spoiled", w, 1, l[1:]...)
	w = again(t, d)
	spoil(w)
	has(t, "opened, spoiled", w, 1, l[1:]...)
	has(t, "opened again", again(t, d), 1, l[1:]...)
}

// TestR1DisksThatOthersHaveWritten: what such a log has is not told; its calls
// end, and none panics.
func TestR1DisksThatOthersHaveWritten(t *testing.T) {
	random := rand.New(rand.NewSource(3))
	for range 600 {
		d := newDisk(t, 1+random.Intn(120))
		for range random.Intn(200) {
			b := make([]byte, part)
			random.Read(b[:random.Intn(part+1)])
			for i := range random.Intn(4) {
				b[i] = byte(random.Intn(4))
			}
			stamp := uint64(random.Intn(100))
			if random.Intn(20) == 0 {
				stamp = random.Uint64()
			}
			out := sealed(stamp, byte(random.Intn(5)), b)
			if random.Intn(5) == 0 {
				random.Read(out)
			}
			d.Write(random.Intn(d.Size()), out)
		}
		w := open(t, d)
		for range 10 {
			w.Append(fill(1, random.Intn(300)))
			w.Sync()
			w.Cut(w.First() + random.Intn(3))
			w.Records()
		}
	}
}

// TestR1ARecordWithBlocksThatAreNotItsOwn: others have written blocks behind a
// record: they take no room away.
func TestR1ARecordWithBlocksThatAreNotItsOwn(t *testing.T) {
	d := newDisk(t, 100)
	d.Write(0, sealed(1, root, []byte{0, 0}))
	d.Write(2, sealed(2, head, []byte{0, 0}))
	for i := 3; i < 100; i++ {
		d.Write(i, sealed(uint64(i), body, nil))
	}
	w := open(t, d)
	has(t, "opened", w, 0, "")
	want(t, "Append", w.Append(fill(1, 1000)), api.OK)
	has(t, "appended", open(t, d), 0, "", string(fill(1, 1000)))
}
