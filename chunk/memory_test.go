package chunk

import (
	"bytes"
	"sync"
	"testing"

	"purse/api"
)

// spoil writes over all of b, and over the room behind its end.
func spoil(b []byte) {
	for i := range b[:cap(b)] {
		b[:cap(b)][i] = '!'
	}
}

// spoilPieces writes over pieces, their bytes, and the room behind both.
func spoilPieces(l []api.Piece) {
	l = l[:cap(l)]
	for i := range l {
		spoil(l[i].Data)
		l[i] = piece(7, 8, 512, 9)
	}
}

func TestR3CutLeavesWhatIsHandedIn(t *testing.T) {
	for _, n := range []int{0, 1, 512, 513, 1025} {
		room := thing(n+700, 1)
		before := bytes.Clone(room)
		l := cuts(t, room[:n])
		if !bytes.Equal(room, before) {
			t.Errorf("Cut of %d bytes changes them, or the room behind them", n)
		}
		spoil(room)
		stands(t, "what was cut was changed", with(t, l...), done(before[:n]))
	}
}

// Nothing that is written to the pieces is seen in what was cut, in another
// answer, or in another piece.
func TestR3CutHandsOutNewMemory(t *testing.T) {
	room := thing(1025+700, 1)
	before := bytes.Clone(room)
	first, second := cuts(t, room[:1025]), cuts(t, room[:1025])
	spoilPieces(first)
	if !bytes.Equal(room, before) {
		t.Error("pieces share memory with what was cut")
	}
	stands(t, "another answer", with(t, second...), done(before[:1025]))
	for i := range second {
		l := cuts(t, room[:1025])
		spoil(l[i].Data)
		for j, p := range l {
			if i != j && !bytes.Equal(p.Data, second[j].Data) {
				t.Errorf("the pieces %d and %d share memory", i, j)
			}
		}
	}
}

func TestR3PutKeepsACopy(t *testing.T) {
	for _, n := range []int{0, 1, 300, 512, 513, 1025, 8192} {
		data := thing(n, 2)
		b := New()
		for _, p := range cuts(t, data) {
			room := append(bytes.Clone(p.Data), "room"...)
			p.Data = room[:len(p.Data)]
			before := bytes.Clone(room)
			puts(t, b, p, p)
			if !bytes.Equal(room, before) {
				t.Errorf("Put changes what is handed in, or the room behind it")
			}
			spoil(room)
		}
		stands(t, "what was put was changed", b, done(data))
	}
}

// The same once more, and what is refused, is not kept either.
func TestR3PutAgainKeepsNothing(t *testing.T) {
	data := thing(600, 3)
	l := cuts(t, data)
	b := with(t, l...)
	again := cuts(t, data)
	puts(t, b, again...)
	spoilPieces(again)
	stands(t, "what was put again was changed", b, done(data))
	other := cuts(t, thing(600, 4))
	for i := range other {
		other[i].Sum = l[0].Sum
		refuses(t, "other bytes", b, other[i], api.ErrPiece)
	}
	spoilPieces(other)
	stands(t, "what was refused was changed", b, done(data))
}

func TestR3DoneHandsOutNewMemory(t *testing.T) {
	for _, n := range []int{1, 300, 512, 513, 1025, 8192} {
		data := thing(n, 5)
		b := with(t, cuts(t, data)...)
		f := b.Fork()
		first, _ := b.Done()
		second, _ := b.Done()
		spoil(first)
		if !bytes.Equal(second, data) {
			t.Errorf("%d bytes: two answers share memory", n)
		}
		stands(t, "what was told was changed", b, done(data))
		stands(t, "what was told was changed: the fork", f, done(data))
		b.Clear()
		puts(t, b, cuts(t, thing(n, 6))...)
		if !bytes.Equal(second, data) {
			t.Errorf("%d bytes: what was told is another behind Clear and Put", n)
		}
	}
}

func TestR3MissingHandsOutNewMemory(t *testing.T) {
	l := cuts(t, thing(2000, 1))
	for what, b := range map[string]*Box{"none": New(), "some": with(t, l[1]), "all": with(t, l...)} {
		before := told(b)
		m, n := b.Missing(), b.Missing()
		m = m[:cap(m)]
		for i := range m {
			m[i] = 99
		}
		stands(t, what+": what was told was changed", b, before)
		if len(n) != len(b.Missing()) || len(n) > 0 && n[0] == 99 {
			t.Errorf("%s: two answers share memory", what)
		}
		b.Clear()
		if len(n) > 0 && n[0] != 0 {
			t.Errorf("%s: what was told is %v behind Clear", what, n)
		}
	}
}

// One piece, handed to several boxes, stands in each by itself.
func TestR3OnePieceOften(t *testing.T) {
	data := thing(512, 1)
	p := cuts(t, data)[0]
	x, y := with(t, p), with(t, p)
	got, _ := x.Done()
	spoil(got)
	spoil(p.Data)
	stands(t, "the one", x, done(data))
	stands(t, "the other", y, done(data))
}

func TestP12_3ForkIsAlike(t *testing.T) {
	data := thing(1300, 1)
	l := cuts(t, data)
	stands(t, "of an empty one", New().Fork(), lacks(0))
	puts(t, New().Fork(), piece(3, 9, 512, 4))
	f := with(t, l[2], l[0]).Fork()
	stands(t, "of one with some", f, lacks(1))
	refuses(t, "another Of", f, piece(1, 4, 512, l[0].Sum), api.ErrPiece)
	refuses(t, "another Sum", f, piece(1, 3, 512, l[0].Sum+1), api.ErrPiece)
	refuses(t, "other bytes", f, piece(2, 3, 1, l[0].Sum), api.ErrPiece)
	puts(t, f, l[1])
	stands(t, "of one with some, then all", f, done(data))
	stands(t, "of one with all", f.Fork(), done(data))
	wrong := l[2]
	wrong.Sum++
	stands(t, "of one of another sum", with(t, wrong).Fork(), lacks(0, 1))
	f.Clear()
	stands(t, "of one that was cleared", f.Fork(), lacks(0))
}

func TestP12_3ForksGoTheirOwnWays(t *testing.T) {
	data, other := thing(1300, 1), thing(100, 2)
	l, m := cuts(t, data), cuts(t, other)
	changes := map[string]func(b *Box){
		"Put":               func(b *Box) { puts(t, b, l[1]) },
		"Put of all":        func(b *Box) { puts(t, b, l...) },
		"Clear":             func(b *Box) { b.Clear() },
		"Clear and Put":     func(b *Box) { b.Clear(); puts(t, b, m...) },
		"Clear and another": func(b *Box) { b.Clear(); puts(t, b, l[1]) },
	}
	for what, change := range changes {
		b := with(t, l[0])
		f := b.Fork()
		g := f.Fork()
		change(f)
		stands(t, what+" of its fork", b, lacks(1, 2))
		stands(t, what+" of what it was made of", g, lacks(1, 2))
		now := told(f)
		if now == lacks(1, 2) {
			t.Errorf("%s changes nothing", what)
		}
		change(b)
		stands(t, what+" of all but one", g, lacks(1, 2))
		stands(t, what+" of both", b, now)
		stands(t, what+", the fork behind it", f, now)
		puts(t, g, l...)
		stands(t, what+", the last one with all", g, done(data))
	}
}

// Forks of an empty box take unlike things, and unlike bytes at one number.
func TestP12_3ForksOfNoneGoApart(t *testing.T) {
	b := New()
	f, g := b.Fork(), b.Fork()
	x, y := thing(700, 1), thing(513, 2)
	puts(t, f, cuts(t, x)...)
	puts(t, g, cuts(t, y)...)
	stands(t, "the one", f, done(x))
	stands(t, "the other", g, done(y))
	stands(t, "the empty one", b, lacks(0))
}

func TestP12_3ForkSharesNoBytes(t *testing.T) {
	x, y := thing(1025, 1), thing(1025, 2)
	l, m := cuts(t, x), cuts(t, y)
	b := with(t, l[0])
	f := b.Fork()
	f.Clear()
	puts(t, f, m...)
	puts(t, b, l[1:]...)
	stands(t, "the box", b, done(x))
	stands(t, "its fork", f, done(y))
}

// Calls that only tell may be made by many at once.
func TestReadByMany(t *testing.T) {
	data := thing(3000, 1)
	b := with(t, cuts(t, data)...)
	var wait sync.WaitGroup
	lines := make([]string, 8)
	for i := range lines {
		wait.Go(func() {
			lines[i] = told(b) + told(b.Fork())
		})
	}
	wait.Wait()
	for _, l := range lines {
		if l != done(data)+done(data) {
			t.Errorf("told by one of many: %q", l)
		}
	}
}
