package slots

import (
	"fmt"
	"math"
	"runtime"
	"slices"
	"testing"
	"weak"

	"purse/api"
)

// Each of the three, gone through twice and more, tells the same.
func TestP8_3ToldTwice(t *testing.T) {
	l := abc(t)
	put(t, l, 6, "d")
	all, run, holes := l.All(), l.Run(), l.Holes()
	for range 3 {
		if s := pairs(all); s != "3=a 5=c 6=d" {
			t.Errorf("All: %q", s)
		}
		if s := pairs(run); s != "3=a" {
			t.Errorf("Run: %q", s)
		}
		if s := numbers(holes); s != "4" {
			t.Errorf("Holes: %q", s)
		}
	}
	n := 0
	for i := range all {
		for j := range all {
			for h := range holes {
				for r := range run {
					n += i*1000 + j*100 + h*10 + r
				}
			}
		}
	}
	if n != (14*1000+14*100)*3+9*43 {
		t.Errorf("within one another: %d", n)
	}
}

// Holes ahead of all that is filled are told each time, also behind a time that
// was left in its midst.
func TestP8_3HolesAtTheBeginning(t *testing.T) {
	l := New[string](3, 6)
	put(t, l, 6, "d")
	put(t, l, 8, "f")
	holes := l.Holes()
	for stop := range 6 {
		for range 2 {
			if s := numbers(holes); s != "3 4 5 7" {
				t.Errorf("Holes, left at the place %d before: %q", stop, s)
			}
		}
		for i := range holes {
			if i >= 3+stop {
				break
			}
		}
	}
}

// Left behind any place, each of them tells nothing more; and tells all, when
// it is gone through once more.
func TestP8_3LeftInTheirMidst(t *testing.T) {
	l := New[string](1, 20)
	for _, i := range []int{1, 2, 3, 6, 7, 10} {
		put(t, l, i, fmt.Sprint("v", i))
	}
	all, run, holes := l.All(), l.Run(), l.Holes()
	for stop := range 8 {
		for what, c := range map[string]struct {
			seq   func(yield func(int) bool)
			tells []int
		}{
			"All":   {func(yield func(int) bool) { all(func(i int, _ string) bool { return yield(i) }) }, []int{1, 2, 3, 6, 7, 10}},
			"Run":   {func(yield func(int) bool) { run(func(i int, _ string) bool { return yield(i) }) }, []int{1, 2, 3}},
			"Holes": {holes, []int{4, 5, 8, 9}},
		} {
			var got []int
			c.seq(func(i int) bool {
				got = append(got, i)
				return len(got) <= stop
			})
			if !slices.Equal(got, c.tells[:min(stop+1, len(c.tells))]) {
				t.Errorf("%s, left behind %d: %v", what, stop, got)
			}
			for i := range c.seq {
				if i != c.tells[0] {
					t.Errorf("%s, once more: %d is first", what, i)
				}
				break
			}
		}
	}
	if s := pairs(all) + "/" + pairs(run) + "/" + numbers(holes); s != "1=v1 2=v2 3=v3 6=v6 7=v7 10=v10/1=v1 2=v2 3=v3/4 5 8 9" {
		t.Errorf("once more: %q", s)
	}
}

// changes is what may be done to a log of abc's kind.
func changes() map[string]func(l *Log[string]) {
	return map[string]func(l *Log[string]){
		"Put at a hole":   func(l *Log[string]) { l.Put(4, "b") },
		"Put at the end":  func(l *Log[string]) { l.Put(6, "d") },
		"Put at First":    func(l *Log[string]) { l.Put(3, "A") },
		"Put at the top":  func(l *Log[string]) { l.Put(5, "C") },
		"Cut to a hole":   func(l *Log[string]) { l.Cut(4) },
		"Cut to the top":  func(l *Log[string]) { l.Cut(5) },
		"Cut of all":      func(l *Log[string]) { l.Cut(6) },
		"Cut of far more": func(l *Log[string]) { l.Cut(far) },
		"Cut and Put": func(l *Log[string]) {
			for i := range 20 {
				l.Cut(4 + i)
				for j := range 4 {
					l.Put(4+i+j, "z")
				}
			}
		},
	}
}

// What they tell is what was so when they were asked for, whatever is done to
// the log ahead of their being gone through, or in their midst.
func TestP8_3AskedForAheadOfAChange(t *testing.T) {
	for what, change := range changes() {
		l := abc(t)
		all, run, holes := l.All(), l.Run(), l.Holes()
		change(l)
		now := told(l)
		if s := pairs(all) + "/" + pairs(run) + "/" + numbers(holes); s != "3=a 5=c/3=a/4" {
			t.Errorf("%s: told is %q", what, s)
		}
		stands(t, what+", and the old ones are gone through", l, now)
		if s := pairs(l.All()) + "/" + pairs(l.Run()) + "/" + numbers(l.Holes()); s == "3=a 5=c/3=a/4" {
			t.Errorf("%s: what is asked for anew is the old", what)
		}
	}
}

func TestP8_3ChangedInTheirMidst(t *testing.T) {
	for what, change := range changes() {
		l := abc(t)
		s := ""
		for i, v := range l.All() {
			s += fmt.Sprint(i, v, " ")
			change(l)
		}
		l = abc(t)
		for i, v := range l.Run() {
			s += fmt.Sprint(i, v, " ")
			change(l)
		}
		l = New[string](3, 4)
		put(t, l, 6, "d")
		for i := range l.Holes() {
			s += fmt.Sprint(i, " ")
			change(l)
		}
		if s != "3a 5c 3a 3 4 5 " {
			t.Errorf("%s in their midst: %q", what, s)
		}
	}
}

// An empty log's iterators are there, and tell nothing, also when it is filled
// behind their being asked for.
func TestP8_3Empty(t *testing.T) {
	l := New[string](3, 4)
	all, run, holes := l.All(), l.Run(), l.Holes()
	if all == nil || run == nil || holes == nil {
		t.Fatal("a nil iterator")
	}
	put(t, l, 3, "a")
	put(t, l, 5, "c")
	if s := pairs(all) + "/" + pairs(run) + "/" + numbers(holes); s != "//" {
		t.Errorf("of an empty log: %q", s)
	}
}

func nilLog[T comparable](t *testing.T, v T) {
	t.Helper()
	var l *Log[T]
	if l.First() != 0 || l.Next() != 0 || l.Top() != 0 || l.Len() != 0 || l.Fork() != nil {
		t.Errorf("nil: First %d, Next %d, Top %d, Len %d, Fork %v", l.First(), l.Next(), l.Top(), l.Len(), l.Fork())
	}
	for _, i := range []int{math.MinInt, -1, 0, 1, 3, 1024, far, far + 1, math.MaxInt} {
		open(t, l, i)
		want(t, fmt.Sprintf("nil: Put(%d)", i), l.Put(i, v), api.ErrNil)
		cut(t, l, i, 0, 0)
	}
	all, run, holes := l.All(), l.Run(), l.Holes()
	if all == nil || run == nil || holes == nil {
		t.Fatal("nil: a nil iterator")
	}
	for range 2 {
		if s := pairs(all) + "/" + pairs(run) + "/" + numbers(holes); s != "//" {
			t.Errorf("nil: told is %q", s)
		}
	}
}

func TestP8_3NilLog(t *testing.T) {
	nilLog(t, 7)
	nilLog(t, "a")
	nilLog(t, struct{}{})
	nilLog[any](t, 7)
	nilLog(t, [2]api.Ballot{{Round: 1}})
	nilLog(t, new(int))
}

func TestP8_3Fork(t *testing.T) {
	for bits := range 1 << 6 {
		l, p := subset(t, 4, bits, true)
		l.Cut(5)
		p.cut(5)
		f := l.Fork()
		if f == nil || f == l {
			t.Fatal("Fork: nil, or the log itself")
		}
		for _, x := range []*Log[string]{f, f.Fork(), l} {
			if s := alike(x, p); s != "" {
				t.Errorf("places %06b: %s", bits, s)
			}
			want(t, "a fork's room", x.Put(11, "x"), api.ErrFar)
			want(t, "a fork's first", x.Put(4, "x"), api.ErrOld)
		}
		put(t, f, 10, "x")
		if s := alike(l, p); s != "" {
			t.Errorf("places %06b: the fork was filled: %s", bits, s)
		}
	}
	for _, first := range []int{1, far} {
		f := New[int](first, api.MaxWindow).Fork()
		stands(t, "a fork of an empty log", f, told(New[int](first, 1)))
		want(t, "its room", f.Put(first+api.MaxWindow, 1), api.ErrFar)
		put(t, f, first+api.MaxWindow-1, 1)
	}
}

func TestP8_3ForksGoOnByThemselves(t *testing.T) {
	for what, change := range changes() {
		for _, first := range []bool{true, false} {
			changed := abc(t)
			other := changed.Fork()
			if first {
				changed, other = other, changed
			}
			change(changed)
			now := told(changed)
			stands(t, what+" of the other", other, "3 4 6 2 | 3=a 5=c | 3=a | 4")
			put(t, other, 4, "o")
			put(t, other, 6, "p")
			put(t, other, 3, "q")
			stands(t, what+" of the other, and Put", other, "3 7 7 4 | 3=q 4=o 5=c 6=p | 3=q 4=o 5=c 6=p | ")
			cut(t, other, 6, 3, 6)
			put(t, other, 9, "r")
			stands(t, what+" of the other, and Cut", other, "6 7 10 2 | 6=p 9=r | 6=p | 7 8")
			stands(t, what+", and its other goes on", changed, now)
		}
	}
}

// Puts into a log and its fork, in turns, at the same places: behind a Cut both
// have room behind their ends, which must not be the same.
func TestP8_3ForksShareNoRoom(t *testing.T) {
	l := New[string](1, 8)
	for i := 1; i <= 8; i++ {
		put(t, l, i, "a")
	}
	l.Cut(6)
	f := l.Fork()
	g := f.Fork()
	for i := 9; i <= 13; i++ {
		put(t, l, i, "l")
		put(t, f, i, "f")
		put(t, g, i, "g")
	}
	for x, v := range map[*Log[string]]string{l: "l", f: "f", g: "g"} {
		stands(t, v, x, fmt.Sprintf("6 14 14 8 | 6=a 7=a 8=a 9=%[1]s 10=%[1]s 11=%[1]s 12=%[1]s 13=%[1]s | 6=a 7=a 8=a 9=%[1]s 10=%[1]s 11=%[1]s 12=%[1]s 13=%[1]s | ", v))
	}
}

// What is handed in, and what is handed out, are values: to change them changes
// no log, and nothing else that was handed out.
func TestR3ValuesAreCopies(t *testing.T) {
	l := New[[3]int](1, 4)
	v := [3]int{1, 2, 3}
	put(t, l, 1, v)
	put(t, l, 2, v)
	v[0] = 9
	f, all, run := l.Fork(), l.All(), l.Run()
	got, _ := l.Get(1)
	got[1] = 9
	for range 2 {
		for _, v := range all {
			v[2] = 9
		}
		for _, v := range run {
			v[2] = 9
		}
	}
	got, _ = f.Get(2)
	got[0] = 9
	for _, x := range []*Log[[3]int]{l, f} {
		stands(t, "what was handed out was changed", x, "1 3 3 2 | 1=[1 2 3] 2=[1 2 3] | 1=[1 2 3] 2=[1 2 3] | ")
	}
	put(t, l, 1, [3]int{4, 5, 6})
	holds(t, f, 1, [3]int{1, 2, 3})
	if s := pairs(all) + "/" + pairs(run); s != "1=[1 2 3] 2=[1 2 3]/1=[1 2 3] 2=[1 2 3]" {
		t.Errorf("All and Run: %q", s)
	}
}

// A place holds the very value that it was given: a list, too, is held as it
// is, to which nothing is done.
func TestR3ListsAreNotChanged(t *testing.T) {
	room := []byte("abcdef")
	l := New[[]byte](1, 4)
	put(t, l, 1, room[:2])
	put(t, l, 2, room[2:4])
	put(t, l, 1, room[4:5])
	l.Fork().Put(2, room[5:])
	l.Cut(2)
	if string(room) != "abcdef" {
		t.Errorf("what was handed in is %q", room)
	}
	if v, is := l.Get(2); string(v) != "cd" || !is {
		t.Errorf("Get(2): %q, %v", v, is)
	}
}

// What is gone is not kept: neither what was cut, nor what another value has
// taken the place of.
func TestWhatIsGoneIsNotKept(t *testing.T) {
	type big = [1000]int
	l := New[*big](1, 8)
	var gone, stays []weak.Pointer[big]
	for i := 1; i <= 8; i++ {
		v := new(big)
		put(t, l, i, v)
		if i < 6 {
			gone = append(gone, weak.Make(v))
		} else {
			stays = append(stays, weak.Make(v))
		}
	}
	put(t, l, 1, new(big))
	cut(t, l, 6, 5, 6)
	runtime.GC()
	for i, w := range gone {
		if w.Value() != nil {
			t.Errorf("what stood at the place %d is kept", i+1)
		}
	}
	for i, w := range stays {
		holds(t, l, 6+i, w.Value())
	}
	runtime.KeepAlive(l)
}

// Nothing stands in the room behind the end of what is kept, and that room stays
// small.
func TestNothingBehindTheEnd(t *testing.T) {
	l := New[int](1, 16)
	for i := range 200 {
		put(t, l, l.First()+i%16, i)
		if i%3 == 0 {
			l.Cut(l.First() + i%7)
		}
		for at, v := range l.places[:cap(l.places)] {
			if at >= len(l.places) && v != nil {
				t.Fatalf("step %d: behind the end stands %d", i, *v)
			}
		}
		if n := len(l.places); n > 0 && l.places[n-1] == nil {
			t.Fatalf("step %d: the last one is not filled", i)
		}
		if cap(l.places) > 64 {
			t.Fatalf("step %d: room for %d", i, cap(l.places))
		}
	}
}
