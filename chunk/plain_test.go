package chunk

import (
	"bytes"
	"fmt"
	"hash/crc32"
	"math"
	"slices"
	"testing"

	"purse/api"
)

const (
	low = math.MinInt
	top = math.MaxInt
	// size, most and limit are the bytes of a piece, the pieces of a thing, and
	// the bytes of the longest thing.
	size  = 512
	most  = 16
	limit = size * most
)

// thing is so many bytes, each by its place and by seed: no two pieces of one
// thing are alike, and no two things of unlike seeds.
func thing(n int, seed byte) []byte {
	b := make([]byte, n)
	for i := range b {
		b[i] = byte(i) ^ byte(i>>8)*31 ^ seed
	}
	return b
}

// sum is the sum of bytes, by another program than the layer's.
func sum(b []byte) uint32 { return crc32.ChecksumIEEE(b) }

// cuts is the pieces of data; it fails, if Cut refuses it.
func cuts(t testing.TB, data []byte) []api.Piece {
	t.Helper()
	l, e := Cut(data)
	if e != api.OK {
		t.Fatalf("Cut of %d bytes: error %d", len(data), e)
	}
	return l
}

// piece is a piece of so many bytes.
func piece(at, of, n int, sum uint32) api.Piece {
	return api.Piece{At: at, Of: of, Sum: sum, Data: thing(n, byte(at))}
}

// with is a box that has these pieces.
func with(t testing.TB, l ...api.Piece) *Box {
	t.Helper()
	b := New()
	puts(t, b, l...)
	return b
}

// puts fails, if b does not take each of l.
func puts(t testing.TB, b *Box, l ...api.Piece) {
	t.Helper()
	for _, p := range l {
		if e := b.Put(p); e != api.OK {
			t.Fatalf("Put of %s: error %d", short(p), e)
		}
	}
}

// refuses fails, if b does not answer p with e, or is another one behind it.
func refuses(t testing.TB, what string, b *Box, p api.Piece, e api.Errno) {
	t.Helper()
	before := told(b)
	if got := b.Put(p); got != e {
		t.Errorf("%s: Put of %s: error %d; want %d", what, short(p), got, e)
	}
	if now := told(b); now != before {
		t.Errorf("%s: Put of %s, refused, made %q of %q", what, short(p), now, before)
	}
}

// stands fails, if b does not tell line.
func stands(t testing.TB, what string, b *Box, line string) {
	t.Helper()
	if got := told(b); got != line {
		t.Errorf("%s: %.200q; want %.200q", what, got, line)
	}
}

// short is a piece in few words.
func short(p api.Piece) string {
	return fmt.Sprintf("%d of %d (sum %x, %d bytes)", p.At, p.Of, p.Sum, len(p.Data))
}

// told is what a box tells by its calls, as a line: what it lacks, how many
// bytes are done, and their sum.
func told(b *Box) string {
	data, is := b.Done()
	return line(b.Missing(), data, is)
}

func line(missing []int, data []byte, is bool) string {
	if !is && data != nil {
		return fmt.Sprintf("%d bytes beside false", len(data))
	}
	if !is {
		return fmt.Sprint(missing, " -")
	}
	return fmt.Sprint(missing, " ", len(data), " ", sum(data))
}

// lacks is the line of a box that is not done.
func lacks(missing ...int) string { return line(missing, nil, false) }

// done is the line of a box that is done as data.
func done(data []byte) string { return line(nil, data, true) }

// form is what a piece looks like, whatever its bytes and the sum.
type form struct{ at, of, size int }

// forms is the forms of all pieces of all bytes that may be cut, by going on
// from byte to byte.
func forms() map[form]int {
	all := map[form]int{}
	for n := 0; n <= limit; n++ {
		for _, f := range formsOf(n) {
			all[f]++
		}
	}
	return all
}

// formsOf is the forms of the pieces of n bytes.
func formsOf(n int) []form {
	l := []form{{}}
	for ; n > 0; n-- {
		if l[len(l)-1].size == size {
			l = append(l, form{at: len(l)})
		}
		l[len(l)-1].size++
	}
	for i := range l {
		l[i].of = len(l)
	}
	return l
}

// plain is a box by the chapter's words: the pieces that were taken, in the
// order in which they came.
type plain struct {
	may  map[form]int
	have []api.Piece
}

func (p *plain) put(x api.Piece) api.Errno {
	if p.may[form{x.At, x.Of, len(x.Data)}] == 0 {
		return api.ErrForm
	}
	for _, y := range p.have {
		if y.Of != x.Of || y.Sum != x.Sum || y.At == x.At && !bytes.Equal(y.Data, x.Data) {
			return api.ErrPiece
		}
	}
	p.have = append(p.have, x)
	return api.OK
}

func (p *plain) missing() []int {
	if len(p.have) == 0 {
		return []int{0}
	}
	var l []int
	for at := 0; at < p.have[0].Of; at++ {
		if !slices.ContainsFunc(p.have, func(x api.Piece) bool { return x.At == at }) {
			l = append(l, at)
		}
	}
	return l
}

func (p *plain) done() ([]byte, bool) {
	if len(p.missing()) > 0 {
		return nil, false
	}
	data := make([]byte, 0, limit)
	for _, x := range p.have {
		begin := x.At * size
		data = data[:max(len(data), begin+len(x.Data))]
		copy(data[begin:], x.Data)
	}
	if sum(data) != p.have[0].Sum {
		return nil, false
	}
	return data, true
}

func (p *plain) clear() { p.have = nil }

func (p *plain) fork() *plain {
	return &plain{may: p.may, have: slices.Clone(p.have)}
}

// same fails, if b does not tell what p tells.
func (p *plain) same(t testing.TB, what string, b *Box) {
	t.Helper()
	data, is := p.done()
	stands(t, what, b, line(p.missing(), data, is))
	if got, _ := b.Done(); !bytes.Equal(got, data) {
		t.Errorf("%s: Done has other bytes", what)
	}
}
