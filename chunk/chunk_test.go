package chunk

import (
	"bytes"
	"fmt"
	"slices"
	"testing"

	"purse/api"
)

func TestExample1(t *testing.T) {
	data := thing(1025, 1)
	l := cuts(t, data)
	if len(l) != 3 || len(l[0].Data) != 512 || len(l[1].Data) != 512 || len(l[2].Data) != 1 {
		t.Fatalf("Cut of 1,025 bytes: %d pieces", len(l))
	}
	b := with(t, l[2])
	stands(t, "the last piece", b, lacks(0, 1))
	other := l[0]
	other.Sum++
	refuses(t, "another sum", b, other, 120)
	puts(t, b, l[0])
	stands(t, "the last and the first piece", b, lacks(1))
	puts(t, b, l[1])
	stands(t, "all pieces", b, done(data))
}

// The edges: no bytes, one, a piece and one more or fewer, all that may be.
func TestP12_1Cut(t *testing.T) {
	rows := []struct{ bytes, pieces, last int }{
		{0, 1, 0}, {1, 1, 1}, {2, 1, 2}, {511, 1, 511}, {512, 1, 512}, {513, 2, 1}, {1023, 2, 511}, {1024, 2, 512}, {1025, 3, 1},
		{7679, 15, 511}, {7680, 15, 512}, {7681, 16, 1}, {8191, 16, 511}, {8192, 16, 512},
	}
	for _, r := range rows {
		data := thing(r.bytes, 9)
		l := cuts(t, data)
		if len(l) != r.pieces || len(l[len(l)-1].Data) != r.last {
			t.Errorf("Cut of %d bytes: %d pieces, the last of %d bytes; want %d, %d", r.bytes, len(l), len(l[len(l)-1].Data), r.pieces, r.last)
		}
	}
}

// Each length that may be: the numbers, the sum and the bytes of each piece.
func TestP12_1CutOfEachLength(t *testing.T) {
	for n := 0; n <= limit; n++ {
		data := thing(n, byte(n))
		l := cuts(t, data)
		want := formsOf(n)
		if len(l) != len(want) {
			t.Fatalf("Cut of %d bytes: %d pieces; want %d", n, len(l), len(want))
		}
		s, together := sum(data), []byte(nil)
		for i, p := range l {
			if (form{p.At, p.Of, len(p.Data)}) != want[i] || p.Sum != s {
				t.Fatalf("Cut of %d bytes: the piece %d is %s; want %v and the sum %x", n, i, short(p), want[i], s)
			}
			together = append(together, p.Data...)
		}
		if !bytes.Equal(together, data) {
			t.Fatalf("Cut of %d bytes: the pieces have other bytes", n)
		}
	}
}

func TestP12_1NoBytes(t *testing.T) {
	for _, data := range [][]byte{nil, {}, thing(5, 1)[:0]} {
		l := cuts(t, data)
		if len(l) != 1 || l[0].At != 0 || l[0].Of != 1 || l[0].Sum != 0 || len(l[0].Data) != 0 {
			t.Errorf("Cut of no bytes: %v", l)
		}
		stands(t, "no bytes", with(t, l...), done(nil))
	}
}

func TestP12_1TooLong(t *testing.T) {
	for _, n := range []int{8193, 8194, 8703, 8704, 8705, 16384, 65537, 1 << 20} {
		if l, e := Cut(make([]byte, n)); e != api.ErrLong || l != nil {
			t.Errorf("Cut of %d bytes: %d pieces, error %d; want error 22", n, len(l), e)
		}
	}
}

// Each form from below what may be to above it, into a new box: those of pieces
// of some bytes are taken, no others.
func TestP12_2EachForm(t *testing.T) {
	all := forms()
	room := make([]byte, size+2)
	taken := 0
	for of := -2; of <= most+2; of++ {
		for at := -2; at <= of+2; at++ {
			for n := range len(room) + 1 {
				want := api.ErrForm
				if all[form{at, of, n}] > 0 {
					want = api.OK
					taken++
				}
				p := api.Piece{At: at, Of: of, Sum: 7, Data: room[:n]}
				if e := New().Put(p); e != want {
					t.Fatalf("Put of %s: error %d; want %d", short(p), e, want)
				}
			}
		}
	}
	if taken != len(all) || taken != 120+16*512+1 {
		t.Errorf("%d forms taken, of %d", taken, len(all))
	}
}

// What may be and what may not, by numbers of Of, At and bytes. Each stands
// for itself, into a box that has none and into one that has another piece.
func TestP12_2Edges(t *testing.T) {
	rows := []struct {
		at, of, bytes int
		is            bool
	}{
		{0, 0, 0, false}, {0, 0, 1, false}, {-1, 0, 0, false}, {0, -1, 0, false}, {-2, -1, 0, false}, {-1, -1, 512, false},
		{0, low, 0, false}, {low, low, 0, false}, {low + 1, low, 1, false}, {top, low, 1, false}, {top, low + 1, 512, false},
		{0, 17, 512, false}, {16, 17, 1, false}, {15, 17, 512, false}, {0, top, 512, false}, {top - 1, top, 1, false}, {top, top, 1, false}, {low, top, 512, false},
		{-1, 1, 0, false}, {-1, 1, 512, false}, {1, 1, 0, false}, {1, 1, 1, false}, {2, 1, 1, false}, {low, 1, 1, false}, {top, 1, 1, false},
		{-1, 3, 512, false}, {3, 3, 1, false}, {3, 3, 512, false}, {4, 3, 512, false}, {low, 3, 512, false}, {top, 3, 512, false},
		{-1, 16, 512, false}, {16, 16, 512, false}, {16, 16, 1, false}, {17, 16, 1, false}, {low, 16, 512, false}, {top, 16, 1, false},
		{0, 1, 0, true}, {0, 1, 1, true}, {0, 1, 511, true}, {0, 1, 512, true}, {0, 1, 513, false}, {0, 1, 1024, false}, {0, 1, 65536, false},
		{0, 3, 0, false}, {0, 3, 1, false}, {0, 3, 511, false}, {0, 3, 512, true}, {0, 3, 513, false},
		{1, 3, 0, false}, {1, 3, 511, false}, {1, 3, 512, true}, {1, 3, 513, false}, {1, 3, 1024, false},
		{2, 3, 0, false}, {2, 3, 1, true}, {2, 3, 511, true}, {2, 3, 512, true}, {2, 3, 513, false},
		{0, 2, 511, false}, {0, 2, 512, true}, {0, 2, 513, false}, {1, 2, 0, false}, {1, 2, 1, true}, {1, 2, 512, true}, {1, 2, 513, false},
		{0, 16, 511, false}, {0, 16, 512, true}, {14, 16, 511, false}, {14, 16, 512, true}, {14, 16, 513, false},
		{15, 16, 0, false}, {15, 16, 1, true}, {15, 16, 512, true}, {15, 16, 513, false},
	}
	for _, r := range rows {
		p := piece(r.at, r.of, r.bytes, 5)
		if r.is {
			puts(t, New(), p)
			continue
		}
		refuses(t, "into none", New(), p, api.ErrForm)
		refuses(t, "into one of 1", with(t, piece(0, 1, 4, 5)), p, api.ErrForm)
		refuses(t, "into one of 3", with(t, piece(1, 3, 512, 5)), p, api.ErrForm)
		refuses(t, "into one of 16", with(t, piece(15, 16, 9, 5)), p, api.ErrForm)
	}
}

// Into a box that has none whatever may be is taken, whatever its sum.
func TestP12_2IntoNone(t *testing.T) {
	for _, s := range []uint32{0, 1, 1 << 31, 1<<32 - 1} {
		for _, f := range []form{{0, 1, 0}, {0, 1, 1}, {0, 1, 512}, {0, 2, 512}, {1, 2, 1}, {15, 16, 512}, {7, 16, 512}} {
			b := with(t, piece(f.at, f.of, f.size, s))
			var lack []int
			for at := range f.of {
				if at != f.at {
					lack = append(lack, at)
				}
			}
			if !slices.Equal(b.Missing(), lack) {
				t.Errorf("Missing behind Put of %v: %v; want %v", f, b.Missing(), lack)
			}
		}
	}
}

// Into a box that has a piece: another Of, another Sum, other bytes at one At,
// each by itself.
func TestP12_2AnotherThing(t *testing.T) {
	first := piece(1, 3, 512, 77)
	last := piece(2, 3, 100, 77)
	turned := func(p api.Piece, i int) api.Piece {
		p.Data = bytes.Clone(p.Data)
		p.Data[i] ^= 128
		return p
	}
	longer := last
	longer.Data = thing(101, 2)
	shorter := last
	shorter.Data = last.Data[:99]
	rows := []struct {
		what string
		p    api.Piece
	}{
		{"Of one less", piece(0, 2, 512, 77)},
		{"Of one more", piece(0, 4, 512, 77)},
		{"Of 1", piece(0, 1, 512, 77)},
		{"Of 1, no bytes", piece(0, 1, 0, 77)},
		{"Of 16", piece(0, 16, 512, 77)},
		{"the same At and bytes, another Of", piece(1, 4, 512, 77)},
		{"At behind the end, by another Of", piece(3, 4, 5, 77)},
		{"Sum one less", piece(0, 3, 512, 76)},
		{"Sum one more", piece(0, 3, 512, 78)},
		{"Sum 0", piece(0, 3, 512, 0)},
		{"the highest bit of Sum", piece(0, 3, 512, 77|1<<31)},
		{"the same At and bytes, another Sum", piece(1, 3, 512, 78)},
		{"another Of and another Sum", piece(0, 4, 512, 78)},
		{"the first byte", turned(first, 0)},
		{"the last byte", turned(first, 511)},
		{"a byte of the last piece", turned(last, 99)},
		{"the last one longer", longer},
		{"the last one shorter", shorter},
		{"the bytes of another one", api.Piece{At: 1, Of: 3, Sum: 77, Data: thing(512, 0)}},
	}
	for _, r := range rows {
		puts(t, New(), r.p)
		b := with(t, first, last)
		refuses(t, r.what, b, r.p, api.ErrPiece)
		refuses(t, r.what+", again", b, r.p, api.ErrPiece)
		puts(t, b, first, last, piece(0, 3, 512, 77))
		stands(t, r.what+", and all", b, lacks())
		refuses(t, r.what+", into one that has all", b, r.p, api.ErrPiece)
	}
}

// No bytes at 0 of 1 are bytes, too: others in their place are refused.
func TestP12_2OtherBytesThanNone(t *testing.T) {
	none := api.Piece{Of: 1}
	b := with(t, none)
	refuses(t, "one byte in the place of none", b, piece(0, 1, 1, 0), api.ErrPiece)
	puts(t, b, none, api.Piece{Of: 1, Data: []byte{}})
	stands(t, "none, again", b, done(nil))
	b = with(t, piece(0, 1, 1, 0))
	refuses(t, "none in the place of one byte", b, none, api.ErrPiece)
}

func TestP12_2TheSameAgain(t *testing.T) {
	data := thing(1300, 3)
	l := cuts(t, data)
	b := with(t, l[1], l[1], cuts(t, data)[1])
	stands(t, "one piece, thrice", b, lacks(0, 2))
	puts(t, b, l[2], l[1], l[2])
	stands(t, "two pieces, often", b, lacks(0))
	puts(t, b, l[0], l[0], l[1], l[2])
	stands(t, "all pieces, often", b, done(data))
}

// What is refused by a box that has none leaves it so: a piece of another Of
// and Sum is taken behind it.
func TestP12_2RefusedByNone(t *testing.T) {
	b := New()
	for _, p := range []api.Piece{{}, piece(0, 3, 511, 9), piece(3, 3, 512, 9), piece(0, 17, 512, 9), piece(2, 3, 0, 9), piece(-1, 3, 512, 9)} {
		refuses(t, "into none", b, p, api.ErrForm)
		stands(t, "into none", b, lacks(0))
	}
	data := thing(600, 4)
	puts(t, b, cuts(t, data)...)
	stands(t, "behind what was refused", b, done(data))
}

// Of several errors the first: ErrNil, ErrForm, ErrPiece.
func TestP12_2OrderOfErrors(t *testing.T) {
	var none *Box
	for _, p := range []api.Piece{{}, piece(0, 1, 1, 1), piece(0, 0, 0, 0), piece(low, top, 600, 1)} {
		if e := none.Put(p); e != api.ErrNil {
			t.Errorf("Put of %s into nil: error %d; want %d", short(p), e, api.ErrNil)
		}
	}
	b := with(t, piece(0, 3, 512, 5))
	for _, p := range []api.Piece{
		piece(0, 3, 511, 5), piece(0, 3, 511, 6), piece(0, 4, 511, 5), piece(0, 0, 512, 6), piece(0, 17, 512, 6),
		piece(4, 4, 512, 6), piece(-1, 4, 512, 6), piece(1, 2, 0, 6), piece(1, 2, 513, 6), piece(0, 1, 513, 6), {},
	} {
		refuses(t, "none that may be, and of another thing", b, p, api.ErrForm)
	}
}

func TestP12_3Missing(t *testing.T) {
	stands(t, "an empty box", New(), lacks(0))
	l := cuts(t, thing(limit, 2))
	b := New()
	for i, at := range []int{15, 0, 7, 8, 1, 14, 3, 2, 13, 12, 4, 5, 6, 11, 9} {
		puts(t, b, l[at])
		if m := b.Missing(); len(m) != 15-i || !slices.IsSorted(m) || slices.Contains(m, at) {
			t.Errorf("Missing with %d pieces: %v", i+1, m)
		}
	}
	stands(t, "all but one", b, lacks(10))
	puts(t, b, l[10])
	stands(t, "all", b, done(thing(limit, 2)))
	if m := b.Missing(); len(m) != 0 {
		t.Errorf("Missing of all: %v", m)
	}
}

// Each set of the pieces of one thing, by count and by which they are.
func TestP12_3MissingOfEachSet(t *testing.T) {
	for of := 1; of <= 6; of++ {
		l := cuts(t, thing((of-1)*size+3, 5))
		for set := 1; set < 1<<of; set++ {
			b := New()
			var lack []int
			for at := range of {
				if set>>at&1 == 1 {
					puts(t, b, l[of-1-at])
				}
			}
			for at := range of {
				if set>>(of-1-at)&1 == 0 {
					lack = append(lack, at)
				}
			}
			if !slices.Equal(b.Missing(), lack) {
				t.Fatalf("Missing of %d, with %b: %v; want %v", of, set, b.Missing(), lack)
			}
			if _, is := b.Done(); is != (len(lack) == 0) {
				t.Fatalf("Done of %d, with %b: %t", of, set, is)
			}
		}
	}
}

func TestP12_3Done(t *testing.T) {
	for _, n := range []int{0, 1, 511, 512, 513, 1024, 1025, 8191, 8192} {
		data := thing(n, 6)
		l := cuts(t, data)
		b := New()
		for _, p := range l {
			if got, is := b.Done(); is || got != nil {
				t.Errorf("Done of %d bytes ahead of the last piece: %d bytes, %t", n, len(got), is)
			}
			puts(t, b, p)
		}
		for range 2 {
			if got, is := b.Done(); !is || !bytes.Equal(got, data) {
				t.Errorf("Done of %d bytes: %d bytes, %t", n, len(got), is)
			}
		}
	}
}

// All pieces, and a sum that is not the bytes': none lack, and nothing is done.
func TestP12_3AnotherSum(t *testing.T) {
	for _, n := range []int{0, 1, 512, 513, 1025, 8192} {
		l := cuts(t, thing(n, 7))
		for _, turn := range []uint32{1, 1 << 31, 1<<32 - 1, l[0].Sum + 1} {
			b := New()
			for _, p := range l {
				p.Sum ^= turn
				puts(t, b, p)
			}
			stands(t, fmt.Sprintf("%d bytes, a sum that is turned by %x", n, turn), b, lacks())
			refuses(t, "a piece with the right sum", b, l[0], api.ErrPiece)
		}
	}
}

// The sum is that of all the bytes, not one of a piece's.
func TestP12_3SumOfOnePiece(t *testing.T) {
	l := cuts(t, thing(1025, 8))
	for _, of := range l {
		b := New()
		for _, p := range l {
			p.Sum = sum(of.Data)
			puts(t, b, p)
		}
		stands(t, "the sum of one piece", b, lacks())
	}
}

func TestP12_3Clear(t *testing.T) {
	data, other := thing(1300, 1), thing(700, 2)
	l, m := cuts(t, data), cuts(t, other)
	wrong := l[0]
	wrong.Sum++
	for what, b := range map[string]*Box{
		"an empty one": New(), "one with some": with(t, l[0], l[2]), "one with all": with(t, l...), "one of another sum": with(t, wrong), "one that was a fork": with(t, l[1]).Fork(),
	} {
		b.Clear()
		stands(t, what+", cleared", b, lacks(0))
		b.Clear()
		stands(t, what+", cleared twice", b, lacks(0))
		puts(t, b, m[1])
		stands(t, what+", a piece behind Clear", b, lacks(0))
		refuses(t, what+", of what it had", b, l[0], api.ErrPiece)
		puts(t, b, m[0])
		stands(t, what+", all behind Clear", b, done(other))
		b.Clear()
		stands(t, what+", cleared again", b, lacks(0))
		puts(t, b, l...)
		stands(t, what+", what it had", b, done(data))
	}
}

// Behind Clear the same number with other bytes, of the same Of and Sum, is
// taken, and none of the former stays.
func TestP12_3ClearForgetsBytes(t *testing.T) {
	b := with(t, piece(0, 2, 512, 5), piece(1, 2, 9, 5))
	b.Clear()
	puts(t, b, piece(1, 2, 10, 5))
	stands(t, "the other one's place", b, lacks(0))
	refuses(t, "the bytes ahead of Clear", b, piece(1, 2, 9, 5), api.ErrPiece)
}

func TestR1NilBox(t *testing.T) {
	var b *Box
	if e := b.Put(api.Piece{Of: 1}); e != api.ErrNil {
		t.Errorf("Put: error %d; want %d", e, api.ErrNil)
	}
	if m := b.Missing(); m != nil {
		t.Errorf("Missing: %v", m)
	}
	if data, is := b.Done(); data != nil || is {
		t.Errorf("Done: %v, %t", data, is)
	}
	b.Clear()
	if b.Fork() != nil {
		t.Error("Fork is not nil")
	}
}

// keeper has a box as one of its parts, from its zero value on.
type keeper struct {
	name string
	Box
}

func TestKeptInsideOfOthers(t *testing.T) {
	data := thing(900, 5)
	l := cuts(t, data)
	var k, other keeper
	stands(t, "kept, as it begins", &k.Box, lacks(0))
	k.Clear()
	stands(t, "kept, cleared", k.Fork(), lacks(0))
	puts(t, &k.Box, l[1])
	if m := k.Missing(); len(m) != 1 || m[0] != 0 {
		t.Errorf("kept: Missing %v; want 0", m)
	}
	other.Box = *k.Fork()
	puts(t, &k.Box, l[0])
	stands(t, "kept, with all", &k.Box, done(data))
	stands(t, "kept by another", &other.Box, lacks(0))
	k.Clear()
	stands(t, "kept, cleared again", &k.Box, lacks(0))
	puts(t, &other.Box, l[0])
	stands(t, "kept by another, with all", &other.Box, done(data))
}
