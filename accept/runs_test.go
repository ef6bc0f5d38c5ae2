package accept

import (
	"fmt"
	"math/rand"
	"slices"
	"testing"

	"purse/api"
)

// call does one thing to both, and tells what each has answered.
type call struct {
	what string
	do   func(a *Acceptor, p *plain) (got, line string)
}

func prepare(ballot api.Ballot, from int) call {
	return call{fmt.Sprintf("Prepare(%v, %d)", ballot, from), func(a *Acceptor, p *plain) (string, string) {
		l, e := a.Prepare(ballot, from)
		line, err := p.prepare(ballot, from)
		return fmt.Sprint(e, " ", text(l)), fmt.Sprint(err, " ", line)
	}}
}

func accepts(v api.Vote) call {
	return call{fmt.Sprintf("Accept(%d, %v, %d bytes)", v.Slot, v.Ballot, len(v.Value)), func(a *Acceptor, p *plain) (string, string) {
		return fmt.Sprint(a.Accept(v)), fmt.Sprint(p.accept(v))
	}}
}

func forget(below int) call {
	return call{fmt.Sprintf("Forget(%d)", below), func(a *Acceptor, p *plain) (string, string) {
		return fmt.Sprint(a.Forget(below)), fmt.Sprint(p.forget(below))
	}}
}

// follows is what of 'What follows' does not hold of an acceptor that was once
// as before tells; "" if all does.
func follows(before, a *Acceptor) string {
	if below(a.Promised(), before.Promised()) {
		return fmt.Sprintf("what is promised fell from %v to %v", before.Promised(), a.Promised())
	}
	at := map[int]api.Ballot{}
	for _, v := range a.Votes() {
		if below(a.Promised(), v.Ballot) {
			return fmt.Sprintf("a vote of %v, above what is promised, %v", v.Ballot, a.Promised())
		}
		at[v.Slot] = v.Ballot
	}
	for _, v := range before.Votes() {
		now, is := at[v.Slot]
		if is && below(now, v.Ballot) {
			return fmt.Sprintf("the vote for %d, of %v, is followed by one of %v", v.Slot, v.Ballot, now)
		}
		if !is && v.Slot >= a.First() {
			return fmt.Sprintf("the vote for %d is gone, and the first slot is %d", v.Slot, a.First())
		}
	}
	return ""
}

// window is what of the chapter's word of an acceptor does not hold: its slots
// rise, from the first one on, below that one and MaxVotes. What it tells may be
// loaded, and makes one that is alike.
func window(a *Acceptor) string {
	next := a.First()
	for _, v := range a.Votes() {
		if v.Slot < next || v.Slot >= a.First()+16 {
			return fmt.Sprintf("a vote for %d, first slot %d", v.Slot, a.First())
		}
		next = v.Slot + 1
	}
	again, e := Load(a.Promised(), a.First(), a.Votes())
	if e != api.OK || told(again) != told(a) {
		return fmt.Sprintf("loaded: error %d, %.200q; want %.200q", e, told(again), told(a))
	}
	return ""
}

// alike is what of an acceptor is not as the plain one has it, or as the chapter
// says.
func alike(before, a *Acceptor, p *plain) string {
	if got, line := told(a), p.told(); got != line {
		return fmt.Sprintf("%.300q; want %.300q", got, line)
	}
	if s := follows(before, a); s != "" {
		return s
	}
	return window(a)
}

// fewCalls go over few ballots and few slots, of the first windows, with one of
// each wrong thing.
func fewCalls() []call {
	l := []call{prepare(b(0, 2), 1), accepts(vote(1, b(1, 0), "no")), forget(1), forget(2), forget(3), forget(17), forget(40)}
	for i, ballot := range []api.Ballot{b(1, 2), b(2, 1), b(2, 3)} {
		l = append(l, prepare(ballot, i+1))
		for _, slot := range []int{1, 2, 16, 17} {
			l = append(l, accepts(vote(slot, ballot, fmt.Sprint(slot, i))))
		}
	}
	return l
}

// Each run of four calls; each step goes on with forks, so that it is seen, too,
// that what a fork does changes nothing of what it was made of.
func TestP10EachShortRun(t *testing.T) {
	calls, runs := fewCalls(), 0
	var walk func(a *Acceptor, p *plain, left int, way string)
	walk = func(a *Acceptor, p *plain, left int, way string) {
		if left == 0 {
			runs++
			return
		}
		for _, c := range calls {
			f, q := a.Fork(), p.fork()
			way := way + " " + c.what
			if got, line := c.do(f, q); got != line {
				t.Fatalf("%s: %s; want %s", way, got, line)
			}
			if s := alike(a, f, q); s != "" {
				t.Fatalf("%s: %s", way, s)
			}
			walk(f, q, left-1, way)
		}
		if got, line := told(a), p.told(); got != line {
			t.Fatalf("%s: what the forks did is seen: %q; want %q", way, got, line)
		}
	}
	walk(New(), newPlain(), 4, "")
	if most := len(calls) * len(calls); runs != most*most {
		t.Errorf("%d runs", runs)
	}
}

// someBallot is mostly near what is promised; now and then no one's.
func someBallot(r *rand.Rand, p *plain) api.Ballot {
	switch k := r.Intn(40); {
	case k == 0:
		ends := []int{low, -1, 0, 1}
		return b(ends[r.Intn(4)], ends[r.Intn(4)])
	case k < 20:
		return p.promised
	case k < 30:
		return b(p.promised.Round, p.promised.Node+r.Intn(3)-1)
	default:
		return b(p.promised.Round+r.Intn(3)-1, 1+r.Intn(5))
	}
}

// someSlot is mostly one within the window, or near its ends; now and then one
// that is far off.
func someSlot(r *rand.Rand, first int) int {
	switch k := r.Intn(50); {
	case k == 0:
		return []int{low, -1, 0, 1, far - 1, far, far + 1, top}[r.Intn(8)]
	case k < 6:
		return first + r.Intn(3) - 1
	case k < 12:
		return first + api.MaxVotes + r.Intn(3) - 1
	default:
		return first + r.Intn(api.MaxVotes)
	}
}

// someBelow is mostly a short way ahead; now and then behind the window, or one
// that changes nothing.
func someBelow(r *rand.Rand, first int) int {
	switch k := r.Intn(60); {
	case k == 0:
		return []int{low, -1, 0, far + 1, far + 2, top}[r.Intn(6)]
	case k < 4:
		return first + api.MaxVotes + r.Intn(3) - 1
	case k < 12:
		return first - r.Intn(2)
	default:
		return first + r.Intn(4)
	}
}

func someCall(r *rand.Rand, p *plain) call {
	switch k := r.Intn(100); {
	case k < 12:
		return prepare(someBallot(r, p), someSlot(r, p.first))
	case k < 24:
		return forget(someBelow(r, p.first))
	case k == 24:
		return accepts(vote(someSlot(r, p.first), someBallot(r, p), long(api.MaxValue+r.Intn(2))))
	default:
		return accepts(vote(someSlot(r, p.first), someBallot(r, p), long(r.Intn(4))+fmt.Sprint(r.Intn(1000))))
	}
}

// begin is both at a beginning: at the first slot, in the midst, along the end
// of slots, near the end of rounds.
func begin(t *testing.T, seed int) (*Acceptor, *plain) {
	t.Helper()
	switch seed % 4 {
	case 0:
		return New(), newPlain()
	case 1:
		return loads(t, b(top, 3), 1000), &plain{promised: b(top, 3), first: 1000}
	case 2:
		return loads(t, b(1, 1), far-20), &plain{promised: b(1, 1), first: far - 20}
	default:
		v := vote(1<<33, b(2, 2), "x")
		return loads(t, b(3, 2), 1<<33, v), &plain{promised: b(3, 2), first: 1 << 33, votes: []api.Vote{v}}
	}
}

// Long runs of all calls, forks that go on by themselves, and members that fall
// and come back with what was told, against the plain one.
func TestP10RunsAgainstPlainWords(t *testing.T) {
	seen := map[string]int{}
	for seed := range 80 {
		r := rand.New(rand.NewSource(int64(seed)))
		a, p := begin(t, seed)
		as, ps := []*Acceptor{a}, []*plain{p}
		for at := range 400 {
			i := r.Intn(len(as))
			if len(as) < 3 && r.Intn(100) == 0 {
				as, ps = append(as, as[i].Fork()), append(ps, ps[i].fork())
			}
			if r.Intn(50) == 0 {
				as[i] = loads(t, as[i].Promised(), as[i].First(), as[i].Votes()...)
			}
			before := slices.Clone(as)
			for j := range before {
				before[j] = before[j].Fork()
			}
			c := someCall(r, ps[i])
			got, line := c.do(as[i], ps[i])
			if got != line {
				t.Fatalf("run %d, step %d: %s: %.300s; want %.300s", seed, at, c.what, got, line)
			}
			for j := range as {
				if s := alike(before[j], as[j], ps[j]); s != "" {
					t.Fatalf("run %d, step %d: %s of %d: %d: %s", seed, at, c.what, i, j, s)
				}
			}
			seen[fmt.Sprintf("%c%.3s", c.what[0], got)]++
		}
	}
	for _, what := range []string{"A0", "A1", "A90", "A80", "A81", "P90 ", "P1 ", "P0 ", "F0", "F1", "F2"} {
		if seen[what] < 10 {
			t.Errorf("just %d times %q: the runs don't go along the edges: %v", seen[what], what, seen)
		}
	}
}

// Whatever is asked behind a promise, a vote by a lower ballot is never there.
func TestWhatFollowsPromiseIsKept(t *testing.T) {
	for seed := range 40 {
		r := rand.New(rand.NewSource(int64(500 + seed)))
		a, p := New(), newPlain()
		for range 300 {
			someCall(r, p).do(a, p)
			f := a.Fork()
			word := f.Promised()
			for range 5 {
				someCall(r, p.fork()).do(f, p.fork())
			}
			for _, lower := range []api.Ballot{b(word.Round-1, 5), b(word.Round, word.Node-1), b(1, 1)} {
				if below(lower, word) && f.Accept(vote(f.First(), lower, "late")) == api.OK {
					t.Fatalf("run %d: %v is promised, and a vote of %v was taken", seed, word, lower)
				}
				if _, e := f.Prepare(lower, 1); below(lower, word) && e == api.OK {
					t.Fatalf("run %d: %v is promised, and %v behind it", seed, word, lower)
				}
			}
			if s := follows(a, f); s != "" {
				t.Fatalf("run %d: %s", seed, s)
			}
		}
	}
}

// W7: the same calls make the same acceptor.
func TestSameCallsMakeTheSame(t *testing.T) {
	for seed := range 8 {
		run := func() string {
			r := rand.New(rand.NewSource(int64(seed)))
			a, p := begin(t, seed)
			out := ""
			for range 300 {
				c := someCall(r, p)
				got, _ := c.do(a, p)
				out += fmt.Sprint(c.what, got, told(a), "\n")
			}
			return out
		}
		if run() != run() {
			t.Error("the same calls have made two runs")
		}
	}
}

// To ask an acceptor, and to fork it, changes nothing of it: many may at once.
func TestReadByMany(t *testing.T) {
	a := three(t)
	lines := make(chan string)
	for range 8 {
		go func() {
			f := a.Fork()
			f.Accept(vote(11, b(6, 1), "new"))
			f.Forget(11)
			lines <- told(a) + " + " + told(f)
		}()
	}
	for range 8 {
		if s := <-lines; s != threeLine+" + 6.1 | 11 | 11:6.1=new 12:5.2=q 25:4.9=r" {
			t.Errorf("one of many: %q", s)
		}
	}
}
