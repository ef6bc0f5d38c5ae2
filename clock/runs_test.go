package clock

import (
	"fmt"
	"math"
	"math/rand"
	"sort"
	"strings"
	"testing"

	"purse/api"
)

// plain is a clock as the chapter's words have it: timers in a list, in the
// order in which they were set last.
type plain struct {
	now    int
	timers []plainTimer
}

type plainTimer struct {
	name string
	due  int
}

func (p *plain) due(name string) (int, bool) {
	for _, k := range p.timers {
		if k.name == name {
			return k.due, true
		}
	}
	return 0, false
}

// part is the timers of which is is false, and those of which it is true.
func (p *plain) part(is func(plainTimer) bool) (left, gone []plainTimer) {
	for _, k := range p.timers {
		if is(k) {
			gone = append(gone, k)
		} else {
			left = append(left, k)
		}
	}
	return left, gone
}

func (p *plain) set(name string, in int) api.Errno {
	if len(name) == 0 || len(name) > api.MaxName || in < 1 || in > math.MaxInt32 {
		return api.ErrArg
	}
	left, _ := p.part(func(k plainTimer) bool { return k.name == name })
	if len(left) == api.MaxTimers {
		return api.ErrFull
	}
	p.timers = append(left, plainTimer{name, p.now + in})
	return api.OK
}

func (p *plain) stop(name string) bool {
	left, gone := p.part(func(k plainTimer) bool { return k.name == name })
	p.timers = left
	return len(gone) > 0
}

func (p *plain) tick() string {
	p.now++
	left, gone := p.part(func(k plainTimer) bool { return k.due == p.now })
	p.timers = left
	return texts(gone)
}

func (p *plain) names() string {
	sorted := append([]plainTimer(nil), p.timers...)
	sort.SliceStable(sorted, func(i, j int) bool { return sorted[i].due < sorted[j].due })
	return texts(sorted)
}

func (p *plain) fork() *plain {
	return &plain{now: p.now, timers: append([]plainTimer(nil), p.timers...)}
}

func texts(l []plainTimer) string {
	var names []string
	for _, k := range l {
		names = append(names, k.name)
	}
	return quoted(names)
}

func quoted(names []string) string { return fmt.Sprintf("%q", names) }

// alike is what of a clock is not as the plain one has it; "" if all is.
func alike(c *Clock, p *plain, names []string) string {
	if c.Now() != p.now {
		return fmt.Sprintf("Now %d; want %d", c.Now(), p.now)
	}
	if s := quoted(c.Names()); s != p.names() {
		return fmt.Sprintf("Names %s; want %s", s, p.names())
	}
	for _, name := range names {
		at, is := c.Due(name)
		if wantAt, wantIs := p.due(name); at != wantAt || is != wantIs {
			return fmt.Sprintf("Due(%q): %d, %v; want %d, %v", name, at, is, wantAt, wantIs)
		}
	}
	return heaped(c.timers)
}

// heaped is what is wrong with the heap, or the places of its names.
func heaped(q *queue) string {
	if len(q.places) != len(q.list) {
		return fmt.Sprintf("%d timers with %d places", len(q.list), len(q.places))
	}
	for i, k := range q.list {
		if q.places[k.name] != i {
			return fmt.Sprintf("%q stands at %d, not at %d", k.name, i, q.places[k.name])
		}
		if i > 0 && !q.Less((i-1)/2, i) {
			return fmt.Sprintf("%q at %d is not behind the one above it", k.name, i)
		}
	}
	return ""
}

// pool is so many names of 1 to MaxName bytes, and three that are refused, or
// never set.
func pool(many int) []string {
	names := []string{"", strings.Repeat("n", api.MaxName+1), "never"}
	for i := range many {
		names = append(names, string([]byte{byte(i)})+strings.Repeat("x", i%api.MaxName))
	}
	return names
}

// someIn is mostly a short time, so that many timers have one; now and then a
// long one, or none that may be.
func someIn(r *rand.Rand, most int) int {
	if r.Intn(30) == 0 {
		return []int{0, -1, math.MinInt, math.MaxInt32, math.MaxInt32 + 1, math.MaxInt, 1000}[r.Intn(7)]
	}
	return 1 + r.Intn(most)
}

// mix is how a run goes: of a hundred steps so many are Ticks, so many are
// Stops; the others are Sets, of one of so many names, in at most so many ticks.
type mix struct{ ticks, stops, names, most int }

// step does one thing to both, and tells what was answered.
func step(r *rand.Rand, c *Clock, p *plain, m mix, names []string) (what, got, want string) {
	name, in := names[r.Intn(len(names))], someIn(r, m.most)
	if name == "never" {
		name = names[len(names)-1]
	}
	switch k := r.Intn(100); {
	case k < m.ticks:
		return "Tick", quoted(c.Tick()), p.tick()
	case k < m.ticks+m.stops:
		return fmt.Sprintf("Stop(%q)", name), fmt.Sprint(c.Stop(name)), fmt.Sprint(p.stop(name))
	default:
		return fmt.Sprintf("Set(%q, %d)", name, in), fmt.Sprint(c.Set(name, in)), fmt.Sprint(p.set(name, in))
	}
}

// mixes: calm runs, crowds of one time, many Stops, and two along the edge of
// MaxTimers.
func mixes() []mix {
	return []mix{{30, 10, 8, 5}, {15, 5, 50, 2}, {10, 40, 30, 12}, {3, 3, api.MaxTimers + 4, 40}, {8, 2, 2 * api.MaxTimers, 30}}
}

// Long runs of all calls, and forks that go on by themselves, against the plain
// one.
func TestP7RunsAgainstPlainWords(t *testing.T) {
	full := 0
	for seed := range 50 {
		r := rand.New(rand.NewSource(int64(seed)))
		m := mixes()[seed%len(mixes())]
		names := pool(m.names)
		cs, ps := []*Clock{New()}, []*plain{{}}
		for at := range 600 {
			i := r.Intn(len(cs))
			if len(cs) < 3 && r.Intn(100) == 0 {
				cs, ps = append(cs, cs[i].Fork()), append(ps, ps[i].fork())
			}
			what, got, want := step(r, cs[i], ps[i], m, names)
			if got != want {
				t.Fatalf("run %d, step %d: %s: %s; want %s", seed, at, what, got, want)
			}
			for j := range cs {
				if s := alike(cs[j], ps[j], names); s != "" {
					t.Fatalf("run %d, step %d: %s of clock %d: clock %d: %s", seed, at, what, i, j, s)
				}
			}
			if got == fmt.Sprint(api.ErrFull) {
				full++
			}
		}
	}
	if full < 100 {
		t.Errorf("just %d Sets were refused by a full clock: the runs don't go along the edge", full)
	}
}

// hold is one Set of a timer: at which time it is to be told, and how often it
// was.
type hold struct{ due, told int }

// holds is the last Set of each name that was not stopped behind it.
type holds map[string]*hold

// tick does one Tick: each that is told is to be one of these, and due just now.
func (o holds) tick(t *testing.T, c *Clock) {
	t.Helper()
	for _, name := range c.Tick() {
		h := o[name]
		if h == nil || h.due != c.Now() {
			t.Fatalf("%s is told at %d; its last Set: %v", name, c.Now(), h)
		}
		h.told++
	}
}

// end is that a name is stopped, or set again: up to now it was told once, if
// its time had come, and else not at all.
func (o holds) end(t *testing.T, c *Clock, name string) {
	t.Helper()
	h := o[name]
	if h == nil {
		return
	}
	times := 0
	if h.due <= c.Now() {
		times = 1
	}
	if h.told != times {
		t.Fatalf("%s, due at %d, was told %d times up to %d", name, h.due, h.told, c.Now())
	}
	delete(o, name)
}

// 'What follows': each timer that nobody stops or sets again is told just once,
// at its time; what is stopped, or set again, is not told for the Set before.
func TestWhatFollows(t *testing.T) {
	for seed := range 40 {
		r := rand.New(rand.NewSource(int64(1000 + seed)))
		c, o := New(), holds{}
		for range 1500 {
			name, in := number(r.Intn(40)), 1+r.Intn(60)
			switch k := r.Intn(20); {
			case k < 4:
				o.end(t, c, name)
				set(t, c, name, in)
				o[name] = &hold{due: c.Now() + in}
			case k < 5:
				stop(t, c, name, o[name] != nil && o[name].told == 0)
				o.end(t, c, name)
			default:
				o.tick(t, c)
			}
		}
		for range 60 {
			o.tick(t, c)
		}
		stands(t, "all are told", c, c.Now(), "")
		for name, h := range o {
			if h.told != 1 {
				t.Errorf("run %d: %s, due at %d, was told %d times", seed, name, h.due, h.told)
			}
		}
	}
}

// W7: the same calls make the same clock.
func TestSameCallsMakeTheSame(t *testing.T) {
	for _, m := range mixes() {
		run := func() string {
			r := rand.New(rand.NewSource(7))
			c, p, names := New(), &plain{}, pool(m.names)
			out := ""
			for range 600 {
				what, got, _ := step(r, c, p, m, names)
				out += fmt.Sprint(what, got, c.Now(), quoted(c.Names()), "\n")
			}
			return out
		}
		if run() != run() {
			t.Error("the same calls have made two runs")
		}
	}
}
