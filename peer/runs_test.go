package peer

import (
	"fmt"
	"math/rand"
	"testing"

	"purse/api"
)

// weather is how a run goes: how often, of a thousand events, something of a kind
// happens; a letter comes else.
type weather struct {
	nodes                                                      int
	lose, double, tick, draw, propose, compact, fall, torn, up int
}

func weathers() []weather {
	return []weather{
		{3, 20, 20, 80, 12, 150, 15, 6, 4, 20},
		{5, 20, 20, 80, 12, 150, 15, 6, 4, 20},
		{3, 150, 50, 150, 30, 100, 20, 10, 6, 30},
		{5, 150, 50, 150, 30, 100, 20, 10, 6, 30},
		{5, 20, 150, 50, 40, 100, 5, 2, 2, 20},
		{3, 5, 5, 30, 4, 300, 10, 1, 1, 10},
		{5, 5, 5, 30, 4, 300, 10, 1, 1, 10},
		{5, 300, 0, 100, 15, 200, 40, 15, 15, 60},
		{1, 0, 0, 100, 30, 300, 50, 30, 30, 100},
	}
}

// storm is so many events.
func (g *group) storm(w weather, events int) {
	g.t.Helper()
	r := g.r
	for range events {
		i := 1 + r.Intn(w.nodes)
		s := g.seats[i]
		k := r.Intn(1000)
		hit := func(often int) bool { k -= often; return k < 0 && k >= -often }
		switch {
		case hit(w.lose):
			if len(g.post) > 0 {
				g.post = g.post[:len(g.post)-1]
			}
		case hit(w.double):
			if len(g.post) > 0 {
				g.post = append(g.post, g.post[r.Intn(len(g.post))])
			}
		case hit(w.tick):
			if s.p != nil {
				s.p.Tick()
			}
		case hit(w.draw):
			if s.p != nil {
				s.p.Draw()
				g.count["draws"]++
			}
		case hit(w.propose):
			for _, j := range r.Perm(w.nodes) {
				if p := g.seats[j+1].p; p != nil && p.Leads() {
					i, s = j+1, g.seats[j+1]
					g.count[fmt.Sprint("propose", g.propose(j+1, r.Intn(60)))]++
					break
				}
			}
		case hit(w.compact):
			if s.p != nil {
				g.compact(i, s.p.Commit()-r.Intn(4))
			}
		case hit(w.fall):
			if s.p != nil {
				g.fall(i)
			}
		case hit(w.torn):
			if s.p != nil {
				s.p.Draw()
				g.read(i, r.Intn(4))
			}
		case hit(w.up):
			if s.p == nil {
				g.start(i)
			}
		case len(g.post) > 0:
			at := r.Intn(len(g.post))
			if r.Intn(2) == 0 {
				at = r.Intn(min(len(g.post), 5))
			}
			if to := g.deliver(at); to > 0 {
				i, s = to, g.seats[to]
			}
		}
		if len(g.post) > 400 {
			g.post = g.post[200:]
		}
		if s.p != nil {
			if s.p.Leads() {
				g.count["leads"]++
			}
			if r.Intn(4) > 0 {
				most := all
				if r.Intn(100) < w.torn {
					most = r.Intn(3)
				}
				g.read(i, most)
			}
		}
	}
}

// run is storms, with a calm behind each.
func run(t *testing.T, seed, storms, events int) *group {
	t.Helper()
	w := weathers()[seed%len(weathers())]
	r := rand.New(rand.NewSource(int64(seed)))
	g := newGroup(t, fmt.Sprintf("run %d of %d members", seed, w.nodes), w.nodes, r)
	for range storms {
		g.storm(w, events)
		for len(g.up()) < w.nodes/2+1 {
			if i := 1 + r.Intn(w.nodes); g.seats[i].p == nil {
				g.start(i)
			}
		}
		g.count["some are down"] += w.nodes - len(g.up())
		g.calm(g.up()[r.Intn(len(g.up()))])
	}
	g.count["known"] = len(g.known)
	return g
}

// P13.4, P13.7, P13.8 and P13.9 over long runs: what each step tells is held
// against the promises by the group, and against the plain twins.
func TestP13_8SafeAndP13_9Calm(t *testing.T) {
	count := map[string]int{}
	for seed := range 270 {
		for what, n := range run(t, seed, 3, 500).count {
			count[what] += n
		}
	}
	for what, least := range map[string]int{
		"known": 5000, "draws": 2000, "falls": 1000, "torn": 500, "images": 200, "compacts": 1000, "leads": 10000, "some are down": 100, "propose0": 5000, "propose3": 100,
		"letter1": 1000, "letter2": 1000, "letter3": 1000, "letter4": 1000, "letter5": 1000, "letter6": 1000, "letter7": 1000, "letter8": 1000, "letter9": 1000,
	} {
		if count[what] < least {
			t.Errorf("just %d times %s: the runs don't go along the edges", count[what], what)
		}
	}
}

// Many short runs from nothing, each with a calm.
func TestP13_9CalmBehindShortRuns(t *testing.T) {
	for seed := range 1500 {
		run(t, 10_000+seed, 1, 10+seed%90)
	}
}

// A calm from nothing, of each majority, whoever of it draws.
func TestP13_9CalmOfEachMajority(t *testing.T) {
	for _, nodes := range []int{1, 3, 5} {
		for set := range 1 << nodes {
			for i := 1; i <= nodes; i++ {
				g := newGroup(t, fmt.Sprintf("the set %b of %d, %d draws", set, nodes, i), nodes, rand.New(rand.NewSource(1)))
				for n := 1; n <= nodes; n++ {
					if set>>(n-1)&1 == 0 {
						g.fall(n)
					}
				}
				if 2*len(g.up()) > nodes && g.seats[i].p != nil {
					g.calm(i)
				}
			}
		}
	}
}

// P13.7: with any first ones of the notes a member comes back, and tells all of
// it.
func TestP13_7AnyFirstNotes(t *testing.T) {
	for seed := range 18 {
		g := run(t, 100+seed, 1, 600)
		for i := 1; i < len(g.seats); i++ {
			notes := g.seats[i].notes
			for n := 0; n <= len(notes); n++ {
				s := together(notes[:n])
				w, e := newTwin(t, fmt.Sprintf("%s: member %d, %d notes", g.what, i, n), i, len(g.seats)-1, s)
				if e != api.OK {
					t.Fatalf("%s: member %d: %d notes: error %d", g.what, i, n, e)
				}
				r := w.Ready()
				if r.Index != s.Index || len(r.Chosen) != len(s.Entries) || w.Commit() != s.Index+len(s.Entries) {
					t.Fatalf("%s: member %d: %d notes: %s", g.what, i, n, show(r))
				}
				w.Draw()
				if w.Ballot().Round <= s.Promised.Round {
					t.Fatalf("%s: member %d: %d notes: Draw: %v behind %v", g.what, i, n, w.Ballot(), s.Promised)
				}
				w.Step(api.Letter{Kind: api.LetPrepare, From: 1 + i%(len(g.seats)-1), To: i, Ballot: api.Ballot{Round: 1 << 50, Node: 1}, Slot: 1})
				w.Ready()
			}
		}
	}
}

// W7: the same events make the same run.
func TestSameCallsMakeTheSame(t *testing.T) {
	for seed := range 9 {
		line := func() string {
			g := run(t, 200+seed, 2, 300)
			s := fmt.Sprint(g.known, len(g.post))
			for i := 1; i < len(g.seats); i++ {
				for _, n := range g.seats[i].notes {
					s += showNote(n) + "\n"
				}
			}
			return s
		}
		if line() != line() {
			t.Errorf("run %d: the same calls have made two runs", seed)
		}
	}
}
