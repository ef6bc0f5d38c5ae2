package wal

import (
	"fmt"
	"math/rand"
	"testing"

	"purse/api"
)

// fits is how many records of n bytes have room on a disk of so many blocks.
func fits(blocks, n int) int {
	return max(0, (blocks/2-16)/((n+63)/64+2))
}

// until appends records of n bytes until one is refused, and tells how many
// were not.
func until(t *testing.T, w *Wal, n int) int {
	t.Helper()
	for i := range api.MaxBlocks {
		switch e := w.Append(fill(n, n)); e {
		case api.OK:
		case api.ErrFull:
			return i
		default:
			t.Fatalf("Append of %d bytes: error %d", n, e)
		}
	}
	t.Fatalf("records of %d bytes have room for ever", n)
	return 0
}

func TestP5_6RecordsOfOneSize(t *testing.T) {
	sizes := []int{0, 1, 34, 35, 63, 64, 65, 128, 129, 1000, 4096, api.MaxRecord}
	for _, blocks := range []int{1, 2, 16, 31, 32, 33, 34, 35, 36, 37, 38, 39, 40, 63, 64, 65, 100, 547, 548, 549, 1000, 3000} {
		for _, n := range sizes {
			d := newDisk(t, blocks)
			w := open(t, d)
			what := fmt.Sprintf("%d blocks, records of %d bytes", blocks, n)
			if got := until(t, w, n); got != fits(blocks, n) {
				t.Fatalf("%s: %d have room; want %d", what, got, fits(blocks, n))
			}
			before := d.Fork()
			want(t, what+": one more", w.Append(fill(n, n)), api.ErrFull)
			if w.Next() != fits(blocks, n) || !same(d, before) {
				t.Fatalf("%s: what is refused changes something", what)
			}
			want(t, what+": Sync", w.Sync(), api.OK)
			w = again(t, d)
			if w.Next() != fits(blocks, n) || until(t, w, n) != 0 {
				t.Fatalf("%s: behind a fall %d, and more have room", what, w.Next())
			}
		}
	}
}

func TestP5_6TheGreatestDisk(t *testing.T) {
	for _, n := range []int{1, api.MaxRecord} {
		d := newDisk(t, api.MaxBlocks)
		w := open(t, d)
		if got := until(t, w, n); got != fits(api.MaxBlocks, n) {
			t.Fatalf("%d records of %d bytes have room; want %d", got, n, fits(api.MaxBlocks, n))
		}
		want(t, "Cut", w.Cut(10), api.OK)
		if got := until(t, w, n); got != 10 {
			t.Fatalf("%d records of %d bytes have room behind a cut; want 10", got, n)
		}
		w = again(t, d)
		if w.First() != 10 || w.Next() < fits(api.MaxBlocks, n) {
			t.Fatalf("records of %d bytes: First %d, Next %d behind a fall", n, w.First(), w.Next())
		}
	}
}

// TestP5_2NoRoomOnADiskThatIsDown: ErrDown is named ahead of ErrFull.
func TestP5_2NoRoomOnADiskThatIsDown(t *testing.T) {
	for _, blocks := range []int{1, 35, 64} {
		d := newDisk(t, blocks)
		w := open(t, d)
		until(t, w, 0)
		want(t, "Append without room", w.Append(nil), api.ErrFull)
		d.Crash()
		want(t, "Append without room, of a disk that is down", w.Append(nil), api.ErrDown)
		d.Start()
		want(t, "Append without room, of a log that has fallen", w.Append(nil), api.ErrDown)
	}
}

// TestP5_6AtItsEdge: what is left is filled to the last block.
func TestP5_6AtItsEdge(t *testing.T) {
	for _, blocks := range []int{64, 65, 200} {
		room := blocks/2 - 16
		for left := 2; left <= 6; left++ {
			d := newDisk(t, blocks)
			w := open(t, d)
			for used := 0; used < room-left; {
				n := min(room-left-used, 5)
				if room-left-used-n == 1 {
					n--
				}
				want(t, "Append", w.Append(fill(used, 64*(n-2))), api.OK)
				used += n
			}
			k := 64 * (left - 2)
			want(t, fmt.Sprintf("%d blocks, %d left: one byte too many", blocks, left), w.Append(fill(1, k+1)), api.ErrFull)
			want(t, fmt.Sprintf("%d blocks, %d left: what has room", blocks, left), w.Append(fill(1, k)), api.OK)
			want(t, "nothing has room", w.Append(nil), api.ErrFull)
			want(t, "Cut", w.Cut(1), api.OK)
			want(t, "behind a cut", w.Append(nil), api.OK)
		}
	}
}

// TestP5_6RunsThatAreLongerThanTheDisk: room comes back by each cut, for ever.
func TestP5_6RunsThatAreLongerThanTheDisk(t *testing.T) {
	for _, blocks := range []int{36, 40, 64, 130, 1200} {
		random := rand.New(rand.NewSource(int64(blocks)))
		l := begin(t, fmt.Sprintf("%d blocks", blocks), blocks)
		bytes := 0
		for i := 0; bytes < 100*64*blocks && i < 100000; i++ {
			n := random.Intn(4 * blocks)
			bytes += n + 64
			l.append(fill(i, n))
			if random.Intn(3) == 0 || l.count() > (blocks/2-16)/2 {
				l.cutAt(len(l.all) - random.Intn(min(3, len(l.all)-l.first+1)))
			}
			if i%500 == 0 {
				l.check()
				l.fall(nil)
			}
			if len(l.w.free)+len(places(l.w)) != blocks-roots {
				t.Fatalf("%d blocks: %d free, %d taken", blocks, len(l.w.free), len(places(l.w)))
			}
		}
		l.check()
	}
}

func places(w *Wal) []int {
	var l []int
	for _, r := range w.records {
		l = append(l, r.places...)
	}
	return l
}

// TestP5_6ARecordLiesOnFewEnoughBlocks: what counts as half a disk less 16
// blocks lies on less than the disk.
func TestP5_6ARecordLiesOnFewEnoughBlocks(t *testing.T) {
	for n := range api.MaxRecord + 1 {
		// The longest number takes 10 bytes, and that of the bytes 3.
		lies := (10 + 3 + n + part - 1) / part
		if counts := blocks(make([]byte, n)); 10*lies > 14*counts {
			t.Fatalf("a record of %d bytes lies on %d blocks, and counts as %d", n, lies, counts)
		}
	}
}
