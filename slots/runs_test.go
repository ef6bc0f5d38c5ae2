package slots

import (
	"fmt"
	"math"
	"math/rand"
	"strings"
	"testing"

	"purse/api"
)

// mix is how a run goes: where its log begins, for how many places it has room,
// and of a hundred steps how many are Cuts and Gets; the others are Puts.
type mix struct{ first, most, cuts, gets int }

// mixes: windows of one place, of few, of some; at the beginning, in the midst,
// and along the end.
func mixes() []mix {
	return []mix{
		{1, 1, 40, 10}, {0, 2, 30, 10}, {3, 4, 25, 15}, {1, 9, 15, 10}, {500, 16, 10, 10}, {-4, 33, 5, 5},
		{far - 2, 3, 10, 10}, {far - 30, 8, 15, 10}, {far, 6, 20, 10}, {far + 9, 20, 20, 5}, {math.MaxInt32 - 3, 12, 12, 10},
	}
}

// somePlace is mostly one within the window, or near its ends; now and then one
// that is far off.
func somePlace(r *rand.Rand, first, most int) int {
	switch k := r.Intn(50); {
	case k == 0:
		return []int{math.MinInt, -1, 0, 1, far - 1, far, far + 1, math.MaxInt}[r.Intn(8)]
	case k < 6:
		return first + r.Intn(3) - 1
	case k < 12:
		return first + most + r.Intn(3) - 1
	default:
		return first + r.Intn(most)
	}
}

// someCut is mostly a short way ahead; now and then behind the window, or one
// that changes nothing. Far cuts are rare, for none goes back.
func someCut(r *rand.Rand, first, most int) int {
	switch k := r.Intn(60); {
	case k == 0:
		return []int{math.MinInt, -1, 0, far + 1, far + 2, math.MaxInt}[r.Intn(6)]
	case k < 4:
		return first + most + r.Intn(3) - 1
	case k < 12:
		return first - r.Intn(2)
	default:
		return first + r.Intn(3)
	}
}

// step does one thing to both, and tells what was answered.
func step(r *rand.Rand, l *Log[int], p *plain[int], m mix) (what, got, line string) {
	switch k := r.Intn(100); {
	case k < m.cuts:
		i := someCut(r, p.first, p.most)
		return fmt.Sprintf("Cut(%d)", i), fmt.Sprint(l.Cut(i)), fmt.Sprint(p.cut(i))
	case k < m.cuts+m.gets:
		i := somePlace(r, p.first, p.most)
		v, is := l.Get(i)
		w, filled := p.get(i)
		return fmt.Sprintf("Get(%d)", i), fmt.Sprint(v, is), fmt.Sprint(w, filled)
	default:
		i, v := somePlace(r, p.first, p.most), r.Intn(1000)
		return fmt.Sprintf("Put(%d, %d)", i, v), fmt.Sprint(l.Put(i, v)), fmt.Sprint(p.put(i, v))
	}
}

// asked is iterators, and what they are to tell: what was so when they were
// asked for.
type asked struct {
	all, run func() string
	holes    func() string
	line     string
}

func ask(l *Log[int]) asked {
	all, run, holes := l.All(), l.Run(), l.Holes()
	a := asked{
		all:   func() string { return pairs(all) },
		run:   func() string { return pairs(run) },
		holes: func() string { return numbers(holes) },
	}
	a.line = strings.SplitN(told(l), " | ", 2)[1]
	return a
}

func (a asked) told() string { return a.all() + " | " + a.run() + " | " + a.holes() }

// Long runs of all calls, forks that go on by themselves, and iterators that
// were asked for earlier, against the plain one.
func TestP8RunsAgainstPlainWords(t *testing.T) {
	seen := map[string]int{}
	for seed := range 66 {
		r := rand.New(rand.NewSource(int64(seed)))
		m := mixes()[seed%len(mixes())]
		ls, ps := []*Log[int]{New[int](m.first, m.most)}, []*plain[int]{newPlain[int](m.first, m.most)}
		old := ask(ls[0])
		for at := range 500 {
			i := r.Intn(len(ls))
			if len(ls) < 3 && r.Intn(100) == 0 {
				ls, ps = append(ls, ls[i].Fork()), append(ps, ps[i].fork())
			}
			what, got, line := step(r, ls[i], ps[i], m)
			if got != line {
				t.Fatalf("run %d, step %d: %s: %s; want %s", seed, at, what, got, line)
			}
			for j := range ls {
				if s := alike(ls[j], ps[j]); s != "" {
					t.Fatalf("run %d, step %d: %s of log %d: log %d: %s", seed, at, what, i, j, s)
				}
			}
			seen[what[:3]+got]++
			if at%5 == 0 {
				if s := old.told(); s != old.line {
					t.Fatalf("run %d, step %d: %s: asked earlier: %q; want %q", seed, at, what, s, old.line)
				}
				old = ask(ls[r.Intn(len(ls))])
			}
		}
	}
	for _, what := range []string{"Put0", "Put80", "Put81", "Cut0", "Cut1", "Cut2", "Get0 false"} {
		if seen[what] < 50 {
			t.Errorf("just %d times %s: the runs don't go along the edges", seen[what], what)
		}
	}
}

// A run through a window of the greatest size.
func TestP8RunOfTheGreatestWindow(t *testing.T) {
	r := rand.New(rand.NewSource(1))
	l, p := New[int](1, math.MaxInt), newPlain[int](1, math.MaxInt)
	for at := range 600 {
		what, got, line := step(r, l, p, mix{cuts: 3, gets: 5})
		if i := p.first + r.Intn(1030); at%10 == 0 {
			what, got, line = fmt.Sprintf("Cut(%d)", i), fmt.Sprint(l.Cut(i)), fmt.Sprint(p.cut(i))
		}
		if got != line {
			t.Fatalf("step %d: %s: %s; want %s", at, what, got, line)
		}
		if s := alike(l, p); s != "" {
			t.Fatalf("step %d: %s: %s", at, what, s)
		}
	}
}

// trace does the same to a log of any type, and tells all but the values, of
// which is tells whether they are the ones of a number.
func trace[T any](t *testing.T, value func(n int) T, is func(v T, n int) bool) string {
	t.Helper()
	r := rand.New(rand.NewSource(5))
	l, out := New[T](7, 10), ""
	at := map[int]int{} // which number was put there last
	check := func(what string, i int, v T) {
		if n, filled := at[i]; !filled || !is(v, n) {
			t.Fatalf("%s: %T at %d is not the one that was put there", what, v, i)
		}
	}
	for n := range 400 {
		i := somePlace(r, l.First(), 10)
		if r.Intn(8) == 0 {
			i = someCut(r, l.First(), 10)
			out += fmt.Sprintln("Cut", i, l.Cut(i))
		} else {
			e := l.Put(i, value(n))
			if e == api.OK {
				at[i] = n
			}
			out += fmt.Sprintln("Put", i, e)
		}
		v, filled := l.Get(i)
		if filled {
			check("Get", i, v)
		}
		out += fmt.Sprintln(filled, l.First(), l.Next(), l.Top(), l.Len(), numbers(l.Holes()))
		f := l.Fork()
		for i, v := range f.All() {
			check("All", i, v)
			out += fmt.Sprint(i, " ")
		}
		for i, v := range f.Run() {
			check("Run", i, v)
			out += fmt.Sprint(i, " ")
		}
	}
	return out
}

// pair is a type of values with lists, maps and functions in it, which can't be
// held against each other.
type pair struct {
	list []int
	do   func() int
	at   map[string]int
}

// Logs of unlike types to which the same is done tell the same places.
func TestP8UnlikeTypes(t *testing.T) {
	pointers := make([]int, 400)
	line := trace(t, func(n int) int { return n }, func(v, n int) bool { return v == n })
	for what, s := range map[string]string{
		"bools":    trace(t, func(n int) bool { return n%2 == 0 }, func(v bool, n int) bool { return v == (n%2 == 0) }),
		"bytes":    trace(t, func(n int) byte { return byte(n) }, func(v byte, n int) bool { return v == byte(n) }),
		"floats":   trace(t, func(int) float64 { return math.NaN() }, func(v float64, _ int) bool { return math.IsNaN(v) }),
		"texts":    trace(t, func(n int) string { return fmt.Sprint(n) }, func(v string, n int) bool { return v == fmt.Sprint(n) }),
		"nothing":  trace(t, func(int) struct{} { return struct{}{} }, func(struct{}, int) bool { return true }),
		"pointers": trace(t, func(n int) *int { return &pointers[n] }, func(v *int, n int) bool { return v == &pointers[n] }),
		"nils":     trace(t, func(int) *int { return nil }, func(v *int, _ int) bool { return v == nil }),
		"lists":    trace(t, func(n int) []byte { return []byte{1, byte(n)} }, func(v []byte, n int) bool { return len(v) == 2 && v[1] == byte(n) }),
		"nil list": trace(t, func(int) []byte { return nil }, func(v []byte, _ int) bool { return v == nil }),
		"anything": trace(t, func(n int) any { return []any{n, nil, "a"}[n%3] }, func(v any, n int) bool { return v == []any{n, nil, "a"}[n%3] }),
		"entries":  trace(t, func(n int) api.Entry { return api.Entry{Slot: n} }, func(v api.Entry, n int) bool { return v.Slot == n && v.Value == nil }),
		"arrays":   trace(t, func(n int) [2000]int { return [2000]int{1999: n} }, func(v [2000]int, n int) bool { return v == [2000]int{1999: n} }),
		"logs":     trace(t, func(n int) *Log[int] { return New[int](n+1, 1) }, func(v *Log[int], n int) bool { return v.First() == n+1 }),
		"mixed": trace(t, func(n int) pair { return pair{[]int{n}, func() int { return n }, map[string]int{"n": n}} },
			func(v pair, n int) bool { return v.list[0] == n && v.do() == n && v.at["n"] == n }),
	} {
		if s != line {
			t.Errorf("%s: a log of them goes another way than one of numbers", what)
		}
	}
}

// W7: the same calls make the same log.
func TestSameCallsMakeTheSame(t *testing.T) {
	for _, m := range mixes() {
		run := func() string {
			r := rand.New(rand.NewSource(7))
			l, p := New[int](m.first, m.most), newPlain[int](m.first, m.most)
			out := ""
			for range 400 {
				what, got, _ := step(r, l, p, m)
				out += fmt.Sprint(what, got, told(l), "\n")
			}
			return out
		}
		if run() != run() {
			t.Error("the same calls have made two runs")
		}
	}
}

// To ask a log changes nothing of it: many may ask it at once.
func TestReadByMany(t *testing.T) {
	l := abc(t)
	lines := make(chan string)
	for range 8 {
		go func() {
			f := l.Fork()
			f.Put(4, "b")
			f.Cut(4)
			lines <- told(l) + told(f)
		}()
	}
	for range 8 {
		if s := <-lines; s != "3 4 6 2 | 3=a 5=c | 3=a | 44 6 6 2 | 4=b 5=c | 4=b 5=c | " {
			t.Errorf("one of many: %q", s)
		}
	}
}

// 'What follows', of each window of six behind each Cut, and of logs of long
// runs.
func TestWhatFollows(t *testing.T) {
	for bits := range 1 << 6 {
		for at := range 9 {
			l, _ := subset(t, 1, bits, true)
			l.Cut(at)
			if s := follows(l); s != "" {
				t.Errorf("places %06b, Cut(%d): %s", bits, at, s)
			}
		}
	}
	for seed, m := range mixes() {
		r := rand.New(rand.NewSource(int64(1000 + seed)))
		l, p := New[int](m.first, m.most), newPlain[int](m.first, m.most)
		for at := range 1000 {
			what, _, _ := step(r, l, p, m)
			if s := follows(l); s != "" {
				t.Fatalf("run %d, step %d: %s: %s", seed, at, what, s)
			}
		}
	}
}
