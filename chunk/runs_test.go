package chunk

import (
	"bytes"
	"fmt"
	"math/rand"
	"slices"
	"testing"

	"purse/api"
)

// Bytes of each length: their pieces from the end on, each one twice.
func TestFollowsEachLength(t *testing.T) {
	for n := range limit + 1 {
		data := thing(n, byte(n>>3))
		l := cuts(t, data)
		b := New()
		for _, p := range slices.Backward(l) {
			if _, is := b.Done(); is {
				t.Fatalf("%d bytes are done ahead of the last piece", n)
			}
			puts(t, b, p, p)
		}
		stands(t, fmt.Sprint(n, " bytes"), b, done(data))
	}
}

// orders calls do with each order of 0 to n - 1.
func orders(n int, do func(l []int)) {
	var place func(l []int)
	place = func(l []int) {
		if len(l) == n {
			do(l)
			return
		}
		for i := range n {
			if !slices.Contains(l, i) {
				place(append(slices.Clone(l), i))
			}
		}
	}
	place(nil)
}

// Each order of few pieces; behind each of them the first one comes again.
func TestFollowsEachOrder(t *testing.T) {
	for of := 1; of <= 6; of++ {
		data := thing((of-1)*size+40*of, 1)
		l := cuts(t, data)
		orders(of, func(order []int) {
			b := New()
			for i, at := range order {
				puts(t, b, l[at], l[order[0]])
				if got, is := b.Done(); is != (i == of-1) || is && !bytes.Equal(got, data) {
					t.Fatalf("Done with %v of %v: %t", order[:i+1], order, is)
				}
			}
		})
	}
}

// Bytes of any length, in any order, some of the pieces twice, some that are
// refused between: done by the last one, and not ahead of it.
func TestFollowsAnyOrder(t *testing.T) {
	r := rand.New(rand.NewSource(1))
	for range 3000 {
		data := make([]byte, r.Intn(limit+1))
		r.Read(data)
		l := cuts(t, data)
		b := New()
		came := make([]int, len(l))
		for left := len(l); left > 0; {
			p := l[r.Intn(len(l))]
			if came[p.At]++; came[p.At] == 1 {
				left--
			}
			puts(t, b, p)
			p.Sum++
			refuses(t, "another sum", b, p, api.ErrPiece)
			if got, is := b.Done(); is != (left == 0) || is && !bytes.Equal(got, data) {
				t.Fatalf("%d bytes, %d pieces to come: Done %t", len(data), left, is)
			}
		}
	}
}

// twin is data with the sum's polynomial laid over it at a bit: its sum is the
// same.
func twin(data []byte, bit int) []byte {
	b := bytes.Clone(data)
	for k := range 33 {
		if uint64(0x104C11DB7)>>(32-k)&1 == 1 {
			b[(bit+k)/8] ^= 1 << ((bit + k) % 8)
		}
	}
	return b
}

// Two things of one length and one sum. Their pieces may go into one box: what
// is done has the sum that they say, or nothing is.
func TestFollowsTwinsOfOneSum(t *testing.T) {
	data := thing(1025, 1)
	inside, over := twin(data, 800), twin(data, size*8-16)
	if sum(inside) != sum(data) || sum(over) != sum(data) || bytes.Equal(inside, data) {
		t.Fatal("these are no twins")
	}
	l, in, ov := cuts(t, data), cuts(t, inside), cuts(t, over)
	b := with(t, l[2], in[0], l[1])
	stands(t, "one piece of another, which has the same sum", b, done(inside))
	refuses(t, "the other one's", b, l[0], api.ErrPiece)
	stands(t, "half of what is turned", with(t, l[2], ov[0], l[1]), lacks())
	stands(t, "the other half", with(t, ov[2], l[0], ov[1]), lacks())
	stands(t, "both halves", with(t, l[2], ov[0], ov[1]), done(over))
}

// Pieces by hand, whose sum is another's: of the same Of and of another one.
func TestFollowsSumOfAnother(t *testing.T) {
	x, y := thing(1025, 1), thing(1026, 2)
	l, m := cuts(t, x), cuts(t, y)
	b := New()
	for _, p := range l {
		p.Sum = m[0].Sum
		puts(t, b, p)
	}
	stands(t, "the sum of another", b, lacks())
	for _, p := range append(slices.Clone(l), m...) {
		refuses(t, "a piece of the one or the other", b, p, api.ErrPiece)
	}
	b.Clear()
	puts(t, b, l...)
	stands(t, "behind Clear, by its own sum", b, done(x))
	mixed := with(t, m[0])
	p := l[1]
	p.Sum = m[0].Sum
	puts(t, mixed, p, m[2])
	stands(t, "one piece of another", mixed, lacks())
}

// both is a box and the plain one, to which the same is done.
type both struct {
	b *Box
	p *plain
}

func (x both) put(t *testing.T, p api.Piece) api.Errno {
	t.Helper()
	got, want := x.b.Put(p), x.p.put(p)
	if got != want {
		t.Fatalf("Put of %s: error %d; want %d", short(p), got, want)
	}
	return got
}

func (x both) clear() {
	x.b.Clear()
	x.p.clear()
}

func (x both) fork() both { return both{x.b.Fork(), x.p.fork()} }

// step does the i-th of few things to x: a piece of small things, Clear, or
// going on with a fork.
func step(t *testing.T, x both, l []api.Piece, i int) both {
	switch {
	case i < len(l):
		x.put(t, l[i])
	case i == len(l):
		x.clear()
	default:
		f := x.fork()
		x.clear()
		x.put(t, l[0])
		return f
	}
	return x
}

// Each run of five steps out of few. Of each run's way there is a fork, held
// against the plain box at its end, too.
func TestEachShortRun(t *testing.T) {
	may := forms()
	data := thing(513, 1)
	l := cuts(t, data)
	wrong := l[1]
	wrong.Sum++
	other := l[1]
	other.Data = []byte("?")
	l = append(l, wrong, other, api.Piece{Of: 1}, piece(1, 2, 0, l[0].Sum), piece(0, 1, 5, l[0].Sum))
	all := len(l) + 2
	runs := 1
	for range 5 {
		runs *= all
	}
	ends := 0
	for run := range runs {
		x := both{New(), &plain{may: may}}
		var mid both
		for i, rest := 0, run; i < 5; i, rest = i+1, rest/all {
			x = step(t, x, l, rest%all)
			if i == 2 {
				mid = x.fork()
			}
		}
		x.p.same(t, fmt.Sprint("the run ", run), x.b)
		mid.p.same(t, fmt.Sprint("the run ", run, ", midway"), mid.b)
		if t.Failed() {
			return
		}
		if _, is := x.b.Done(); is {
			ends++
		}
	}
	if ends < runs/20 {
		t.Errorf("%d of %d runs end with something done", ends, runs)
	}
}

// anyPiece is a piece of one of the things, as it is, or with one thing turned.
func anyPiece(r *rand.Rand, things [][]api.Piece) api.Piece {
	l := things[r.Intn(len(things))]
	p := l[r.Intn(len(l))]
	switch r.Intn(12) {
	case 0:
		p.At += r.Intn(5) - 2
	case 1:
		p.Of += r.Intn(3) - 1
	case 2:
		p.Sum ^= 1 << r.Intn(32)
	case 3:
		p.Data = p.Data[:r.Intn(len(p.Data)+1)]
	case 4:
		p.Data = append(slices.Clip(p.Data), "more"...)
	case 5:
		p.Data = bytes.Clone(p.Data)
		for i := range p.Data[:min(1, len(p.Data))] {
			p.Data[i] ^= 64
		}
	case 6:
		p.At, p.Of = []int{low, -1, 0, 15, 16, top}[r.Intn(6)], []int{low, -1, 0, 1, 16, 17, top}[r.Intn(7)]
	}
	return p
}

// someThings is few things, with twins in their lengths.
func someThings(r *rand.Rand, t *testing.T) [][]api.Piece {
	lengths := []int{0, 1, size - 1, size, size + 1, 2 * size, 2*size + 1, r.Intn(limit + 1)}
	var l [][]api.Piece
	for range 2 {
		n := lengths[r.Intn(len(lengths))]
		l = append(l, cuts(t, thing(n, byte(r.Intn(256)))), cuts(t, thing(n, byte(r.Intn(256)))))
	}
	return l
}

// longRun is many steps against the plain box, with forks that go their own
// ways; it tells a line of all that was told, and counts what came up.
func longRun(t *testing.T, seed int64, may map[form]int, seen map[string]int) string {
	r := rand.New(rand.NewSource(seed))
	things := someThings(r, t)
	boxes := []both{{New(), &plain{may: may}}}
	out := ""
	for range 120 {
		i := r.Intn(len(boxes))
		x := boxes[i]
		switch n := r.Intn(40); {
		case n == 0:
			x.clear()
			seen["clear"]++
		case n == 1 && len(boxes) < 4:
			boxes = append(boxes, x.fork())
			seen["fork"]++
		case n < 6:
			for _, p := range things[r.Intn(len(things))] {
				x.put(t, p)
			}
		default:
			e := x.put(t, anyPiece(r, things))
			seen[fmt.Sprint("error ", e)]++
			out += fmt.Sprint(e, " ")
		}
		x.p.same(t, fmt.Sprint("seed ", seed), x.b)
		if data, is := x.b.Done(); is {
			seen["done"]++
			if sum(data) != x.p.have[0].Sum {
				t.Fatalf("seed %d: what is done has another sum", seed)
			}
		} else if len(x.b.Missing()) == 0 {
			seen["all, and another sum"]++
		}
		out += told(x.b) + "\n"
	}
	for _, x := range boxes {
		x.p.same(t, fmt.Sprint("seed ", seed, ", at the end"), x.b)
	}
	return out
}

func TestLongRuns(t *testing.T) {
	may, seen := forms(), map[string]int{}
	for seed := range int64(300) {
		longRun(t, seed, may, seen)
		if t.Failed() {
			return
		}
	}
	for _, what := range []string{"clear", "fork", "error 0", "error 21", "error 120", "done", "all, and another sum"} {
		if seen[what] < 100 {
			t.Errorf("%s: came up %d times", what, seen[what])
		}
	}
}

// W7: the same steps tell the same.
func TestTheSameAgain(t *testing.T) {
	may, seen := forms(), map[string]int{}
	for seed := range int64(20) {
		if longRun(t, seed, may, seen) != longRun(t, seed, may, seen) {
			t.Fatalf("seed %d: told otherwise, when run again", seed)
		}
	}
}
