package slots

import (
	"fmt"
	"math"
	"strings"
	"testing"

	"purse/api"
)

// abc is a log with the places 3 to 6, of which 3 and 5 are filled.
func abc(t testing.TB) *Log[string] {
	t.Helper()
	l := New[string](3, 4)
	put(t, l, 5, "c")
	put(t, l, 3, "a")
	return l
}

func TestExamples(t *testing.T) {
	l := abc(t)
	stands(t, "the example", l, "3 4 6 2 | 3=a 5=c | 3=a | 4")
	want(t, "Put(7)", l.Put(7, "x"), api.ErrFar)
	want(t, "Put(2)", l.Put(2, "x"), api.ErrOld)
	stands(t, "what is refused", l, "3 4 6 2 | 3=a 5=c | 3=a | 4")
	cut(t, l, 5, 1, 5)
	stands(t, "Cut(5)", l, "5 6 6 1 | 5=c | 5=c | ")
	put(t, l, 8, "z")
	stands(t, "Put(8)", l, "5 6 9 2 | 5=c 8=z | 5=c | 6 7")
}

// The limits are the document's: these tests name them by api's names.
func TestLimits(t *testing.T) {
	if api.MaxWindow != 1024 || api.ErrOld != 80 || api.ErrFar != 81 {
		t.Errorf("MaxWindow %d, ErrOld %d, ErrFar %d", api.MaxWindow, api.ErrOld, api.ErrFar)
	}
}

// ends is an argument of New, and what it counts as.
type ends struct{ given, counts int }

func firsts() []ends {
	return []ends{
		{math.MinInt, 1}, {math.MinInt + 1, 1}, {-far, 1}, {-1, 1}, {0, 1}, {1, 1}, {2, 2}, {1024, 1024}, {math.MaxInt32 + 1, math.MaxInt32 + 1},
		{far - 1, far - 1}, {far, far}, {far + 1, far}, {far + 1024, far}, {math.MaxInt - 1, far}, {math.MaxInt, far},
	}
}

func mosts() []ends {
	return []ends{
		{math.MinInt, 1}, {-1024, 1}, {-1, 1}, {0, 1}, {1, 1}, {2, 2}, {3, 3}, {1000, 1000},
		{api.MaxWindow - 1, api.MaxWindow - 1}, {api.MaxWindow, api.MaxWindow}, {api.MaxWindow + 1, api.MaxWindow},
		{2 * api.MaxWindow, api.MaxWindow}, {far, api.MaxWindow}, {math.MaxInt - 1, api.MaxWindow}, {math.MaxInt, api.MaxWindow},
	}
}

func TestP8_1New(t *testing.T) {
	for _, f := range firsts() {
		for _, m := range mosts() {
			what := fmt.Sprintf("New(%d, %d)", f.given, m.given)
			l := New[int](f.given, m.given)
			if l == nil {
				t.Fatal(what, "is nil")
			}
			empty := fmt.Sprintf("%d %d %d 0 |  |  | ", f.counts, f.counts, f.counts)
			stands(t, what, l, empty)
			open(t, l, f.counts-1, f.counts, f.counts+1, f.counts+m.counts-1, f.counts+m.counts)
			want(t, what+": below", l.Put(f.counts-1, 1), api.ErrOld)
			want(t, what+": above", l.Put(f.counts+m.counts, 1), api.ErrFar)
			stands(t, what+": refused", l, empty)
			end := f.counts + m.counts - 1
			put(t, l, end, 7)
			holds(t, l, end, 7)
			if l.Top() != end+1 || l.Len() != 1 || l.First() != f.counts {
				t.Errorf("%s: Put(%d): First %d, Top %d, Len %d", what, end, l.First(), l.Top(), l.Len())
			}
			if next := l.Next(); m.counts > 1 && next != f.counts || m.counts == 1 && next != f.counts+1 {
				t.Errorf("%s: Put(%d): Next %d", what, end, next)
			}
		}
	}
}

func TestP8_1NewIsAnother(t *testing.T) {
	l, m := New[string](1, 4), New[string](1, 4)
	if l == m {
		t.Fatal("the same log twice")
	}
	put(t, l, 1, "a")
	stands(t, "another log was filled", m, "1 1 1 0 |  |  | ")
	stands(t, "New behind others", New[string](1, 4), "1 1 1 0 |  |  | ")
}

// subset is a log, and the plain one, with the places of a window of six that
// stand in bits, filled in rising order, or in falling order.
func subset(t testing.TB, first, bits int, rising bool) (*Log[string], *plain[string]) {
	t.Helper()
	l, p := New[string](first, 6), newPlain[string](first, 6)
	for n := range 6 {
		at := n
		if !rising {
			at = 5 - n
		}
		if bits>>at&1 == 1 {
			put(t, l, first+at, "abcdef"[at:at+1])
			p.put(first+at, "abcdef"[at:at+1])
		}
	}
	return l, p
}

// Whichever places of a window are filled, in whichever order.
func TestP8_1EachSubset(t *testing.T) {
	for _, first := range []int{1, 2, 100, far - 3, far} {
		for bits := range 1 << 6 {
			for _, rising := range []bool{true, false} {
				l, p := subset(t, first, bits, rising)
				if s := alike(l, p); s != "" {
					t.Errorf("first %d, places %06b, rising %v: %s", first, bits, rising, s)
				}
			}
		}
	}
}

// A whole window of the greatest size.
func TestP8_1WholeWindow(t *testing.T) {
	l := New[int](10, api.MaxWindow)
	for n := range api.MaxWindow {
		if l.Next() != 10+n || l.Top() != 10+n || l.Len() != n {
			t.Fatalf("%d are filled: Next %d, Top %d, Len %d", n, l.Next(), l.Top(), l.Len())
		}
		put(t, l, 10+n, n)
	}
	want(t, "one behind", l.Put(10+api.MaxWindow, 1), api.ErrFar)
	if l.Next() != 1034 || l.Top() != 1034 || l.Len() != 1024 {
		t.Errorf("all are filled: Next %d, Top %d, Len %d", l.Next(), l.Top(), l.Len())
	}
	cut(t, l, 510, 500, 510)
	put(t, l, 1533, 7)
	want(t, "one behind", l.Put(1534, 1), api.ErrFar)
	if l.Next() != 1034 || l.Top() != 1534 || l.Len() != 525 {
		t.Errorf("a hole: Next %d, Top %d, Len %d", l.Next(), l.Top(), l.Len())
	}
	cut(t, l, 1534, 525, 1534)
	stands(t, "all are gone", l, "1534 1534 1534 0 |  |  | ")
}

func TestP8_2PutEdges(t *testing.T) {
	for _, first := range []int{1, 2, 5, far - 3, far - 1, far} {
		for _, most := range []int{1, 2, 4, api.MaxWindow} {
			l, p := New[int](first, most), newPlain[int](first, most)
			for _, i := range []int{math.MinInt, math.MinInt + 1, -far, -1, 0, first - 2, first - 1} {
				if i < first {
					want(t, fmt.Sprintf("New(%d, %d), Put(%d)", first, most, i), l.Put(i, 1), api.ErrOld)
				}
			}
			for _, i := range []int{first + most, first + most + 1, first + 2*most, first + far, math.MaxInt - most, math.MaxInt - first, math.MaxInt - 1, math.MaxInt} {
				want(t, fmt.Sprintf("New(%d, %d), Put(%d)", first, most, i), l.Put(i, 1), api.ErrFar)
			}
			if s := alike(l, p); s != "" {
				t.Errorf("New(%d, %d): what is refused: %s", first, most, s)
			}
			for _, i := range []int{first + most - 1, first, first + most/2} {
				put(t, l, i, i)
				p.put(i, i)
				if s := alike(l, p); s != "" {
					t.Errorf("New(%d, %d), Put(%d): %s", first, most, i, s)
				}
			}
		}
	}
}

// What is refused changes nothing of a log in which something stands.
func TestP8_2RefusedChangesNothing(t *testing.T) {
	l := abc(t)
	was := told(l)
	for _, i := range []int{math.MinInt, -1, 0, 1, 2} {
		want(t, fmt.Sprintf("Put(%d)", i), l.Put(i, "x"), api.ErrOld)
	}
	for _, i := range []int{7, 8, 11, 1024, far, math.MaxInt} {
		want(t, fmt.Sprintf("Put(%d)", i), l.Put(i, "x"), api.ErrFar)
	}
	stands(t, "Puts that are refused", l, was)
	for _, i := range []int{math.MinInt, -1, 0, 1, 2, 3, far + 1, far + 2, math.MaxInt} {
		cut(t, l, i, 0, 3)
	}
	stands(t, "Cuts that change nothing", l, was)
	put(t, l, 6, "d")
	want(t, "Put(7)", l.Put(7, "x"), api.ErrFar)
}

// R5: ErrNil is named first; of the other two no place has both, also where the
// log's room is at an end.
func TestP8_2OrderOfErrors(t *testing.T) {
	var none *Log[string]
	for _, i := range []int{math.MinInt, -1, 0, 1, 2, 3, 7, far, math.MaxInt} {
		want(t, fmt.Sprintf("nil: Put(%d)", i), none.Put(i, "x"), api.ErrNil)
	}
	l := New[string](far, 1)
	want(t, "below", l.Put(far-1, "x"), api.ErrOld)
	want(t, "far below", l.Put(math.MinInt, "x"), api.ErrOld)
	want(t, "behind", l.Put(far+1, "x"), api.ErrFar)
	want(t, "far behind", l.Put(math.MaxInt, "x"), api.ErrFar)
	put(t, l, far, "x")
}

func TestP8_2PutAgain(t *testing.T) {
	l := abc(t)
	put(t, l, 5, "C")
	stands(t, "Put at the top", l, "3 4 6 2 | 3=a 5=C | 3=a | 4")
	put(t, l, 3, "A")
	stands(t, "Put at First", l, "3 4 6 2 | 3=A 5=C | 3=A | 4")
	put(t, l, 3, "A")
	stands(t, "Put of the same", l, "3 4 6 2 | 3=A 5=C | 3=A | 4")
	put(t, l, 4, "B")
	stands(t, "Put at a hole", l, "3 6 6 3 | 3=A 4=B 5=C | 3=A 4=B 5=C | ")
	put(t, l, 4, "b")
	stands(t, "Put at what was a hole", l, "3 6 6 3 | 3=A 4=b 5=C | 3=A 4=b 5=C | ")
	put(t, l, 6, "D")
	put(t, l, 6, "d")
	stands(t, "Put at the last place", l, "3 7 7 4 | 3=A 4=b 5=C 6=d | 3=A 4=b 5=C 6=d | ")
}

// A zero value fills its place as each other one does.
func TestP8_2PutZeroValues(t *testing.T) {
	l := New[string](1, 4)
	put(t, l, 2, "")
	stands(t, "Put of an empty text", l, "1 1 3 1 | 2= |  | 1")
	holds(t, l, 2, "")
	put(t, l, 1, "a")
	put(t, l, 1, "")
	stands(t, "Put of an empty text again", l, "1 3 3 2 | 1= 2= | 1= 2= | ")
	cut(t, l, 3, 2, 3)
	p := New[*int](1, 4)
	put(t, p, 1, nil)
	holds(t, p, 1, nil)
	open(t, p, 2)
	if p.Len() != 1 || p.Next() != 2 || p.Top() != 2 {
		t.Errorf("a nil pointer: Len %d, Next %d, Top %d", p.Len(), p.Next(), p.Top())
	}
	for i, v := range p.Run() {
		if i != 1 || v != nil {
			t.Errorf("Run: %d, %v", i, v)
		}
	}
}

func TestP8_2Get(t *testing.T) {
	l := abc(t)
	holds(t, l, 3, "a")
	holds(t, l, 5, "c")
	open(t, l, 4, 6, 7, 8, 2, 1, 0, -1, 3+4, 5+4, 3+1024, 5+1024, 3-4, far, math.MinInt, math.MaxInt, math.MinInt+3, math.MaxInt-3)
	stands(t, "Get changes nothing", l, "3 4 6 2 | 3=a 5=c | 3=a | 4")
	cut(t, l, 4, 1, 4)
	open(t, l, 3, 4, 6, 7)
	holds(t, l, 5, "c")
	put(t, l, 7, "e")
	open(t, l, 3, 4, 6, 8)
	holds(t, l, 7, "e")
	cut(t, l, 6, 1, 6)
	open(t, l, 5, 6, 8, 9)
	holds(t, l, 7, "e")
}

func TestP8_2Cut(t *testing.T) {
	for _, c := range []struct {
		at, gone int
		line     string
	}{
		{math.MinInt, 0, "3 4 6 2 | 3=a 5=c | 3=a | 4"},
		{-1, 0, "3 4 6 2 | 3=a 5=c | 3=a | 4"},
		{0, 0, "3 4 6 2 | 3=a 5=c | 3=a | 4"},
		{2, 0, "3 4 6 2 | 3=a 5=c | 3=a | 4"},
		{3, 0, "3 4 6 2 | 3=a 5=c | 3=a | 4"},
		{4, 1, "4 4 6 1 | 5=c |  | 4"},
		{5, 1, "5 6 6 1 | 5=c | 5=c | "},
		{6, 2, "6 6 6 0 |  |  | "},
		{7, 2, "7 7 7 0 |  |  | "},
		{8, 2, "8 8 8 0 |  |  | "},
		{5000, 2, "5000 5000 5000 0 |  |  | "},
		{far - 1, 2, fmt.Sprintf("%[1]d %[1]d %[1]d 0 |  |  | ", far-1)},
		{far, 2, fmt.Sprintf("%[1]d %[1]d %[1]d 0 |  |  | ", far)},
		{far + 1, 0, "3 4 6 2 | 3=a 5=c | 3=a | 4"},
		{math.MaxInt, 0, "3 4 6 2 | 3=a 5=c | 3=a | 4"},
	} {
		l := abc(t)
		if n := l.Cut(c.at); n != c.gone {
			t.Errorf("Cut(%d): %d; want %d", c.at, n, c.gone)
		}
		stands(t, fmt.Sprintf("Cut(%d)", c.at), l, c.line)
		if n := l.Cut(c.at); n != 0 {
			t.Errorf("Cut(%d) once more: %d", c.at, n)
		}
		stands(t, fmt.Sprintf("Cut(%d) once more", c.at), l, c.line)
		first := l.First()
		want(t, "Put below First", l.Put(first-1, "x"), api.ErrOld)
		want(t, "Put behind the room", l.Put(first+4, "x"), api.ErrFar)
		put(t, l, first+3, "x")
		holds(t, l, first+3, "x")
		open(t, l, first-1, first+4)
	}
}

// Each cut of each window of six, and all places looked at behind it.
func TestP8_2CutEachSubset(t *testing.T) {
	for _, first := range []int{1, 9, far - 4, far} {
		for bits := range 1 << 6 {
			for at := first - 1; at < first+9; at++ {
				l, p := subset(t, first, bits, bits%2 == 0)
				if n, gone := l.Cut(at), p.cut(at); n != gone {
					t.Errorf("first %d, places %06b, Cut(%d): %d; want %d", first, bits, at, n, gone)
				}
				if s := alike(l, p); s != "" {
					t.Errorf("first %d, places %06b, Cut(%d): %s", first, bits, at, s)
				}
				for i := p.first + 5; i >= p.first; i -= 2 {
					put(t, l, i, "n")
					p.put(i, "n")
				}
				if s := alike(l, p); s != "" {
					t.Errorf("first %d, places %06b, Cut(%d), and Put: %s", first, bits, at, s)
				}
			}
		}
	}
}

// At the last First that may be, places behind it are filled, and none is cut.
func TestP8_2AtTheEnd(t *testing.T) {
	l := New[string](far-2, 4)
	for i, v := range []string{"a", "b", "c", "d"} {
		put(t, l, far-2+i, v)
	}
	want(t, "Put", l.Put(far+2, "x"), api.ErrFar)
	cut(t, l, far+1, 0, far-2)
	cut(t, l, far+2, 0, far-2)
	cut(t, l, far, 2, far)
	cut(t, l, far+1, 0, far)
	cut(t, l, math.MaxInt, 0, far)
	put(t, l, far+3, "f")
	want(t, "Put", l.Put(far+4, "x"), api.ErrFar)
	want(t, "Put", l.Put(far-1, "x"), api.ErrOld)
	stands(t, "at the end", l, strings.NewReplacer("n0", "1099511627776", "n1", "1099511627777", "n2", "1099511627778", "n3", "1099511627779", "n4", "1099511627780").
		Replace("n0 n2 n4 3 | n0=c n1=d n3=f | n0=c n1=d | n2"))
}

// What was in a place that is gone is never told of another one, wherever the
// window goes.
func TestP8_2NothingStaysBehindCut(t *testing.T) {
	for _, most := range []int{1, 2, 3, 7, 8, 64} {
		for by := 1; by < 2*most+2; by++ {
			l := New[int](1, most)
			for first := 1; first < 6*most; first += by {
				for i := first; i < first+most; i++ {
					put(t, l, i, i)
				}
				before := l.Len()
				cut(t, l, first+by, min(by, most), first+by)
				if l.Len() != before-min(by, most) || l.Next() != l.Top() {
					t.Fatalf("room for %d, cut by %d at %d: Len %d, Next %d, Top %d", most, by, first, l.Len(), l.Next(), l.Top())
				}
				for i := l.Top(); i < l.First()+most; i++ {
					open(t, l, i)
				}
			}
		}
	}
}
