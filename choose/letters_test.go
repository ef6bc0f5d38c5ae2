package choose

import (
	"fmt"
	"math/rand"
	"slices"
	"testing"

	"purse/accept"
	"purse/api"
)

// lastSlot is the last one for which the turns of a long run propose something.
const lastSlot = 6

// letter is on its way: a turn's question to a node, a node's promise to a turn,
// or what a turn has proposed for a slot to a node.
type letter struct {
	kind  byte // 'q', 'p' or 'v'
	at    int  // the turn
	node  int
	votes []api.Vote
}

// rule is how a long run goes: what of it is not as the chapter says, if any.
type rule struct {
	// own lets each turn propose its own values, whatever Open says.
	own bool
	// few lets a turn propose by fewer promises than a majority.
	few bool
	// forget lets members that fall come back with nothing.
	forget bool
}

// run is a long run: members, turns, what is on its way, all votes ever cast.
type run struct {
	r       *rand.Rand
	rule    rule
	members []*accept.Acceptor
	turns   []*turn
	way     []letter
	cast    tally
	seen    map[string]int
}

func newRun(seed int, how rule) *run {
	r := rand.New(rand.NewSource(int64(seed)))
	n := &run{r: r, rule: how, cast: tally{}, seen: map[string]int{}}
	for range 1 + r.Intn(api.MaxNodes) {
		n.members = append(n.members, accept.New())
	}
	if r.Intn(2) == 0 {
		// {1, 1} is the least that may be: the first one, that asks nobody.
		first := &turn{ballot: b(1, 1), from: 1}
		n.turns = append(n.turns, first)
		n.propose(0, first.fill(nil, lastSlot))
	}
	return n
}

// draw begins a turn with a ballot that nobody has had, above the others' or
// below.
func (n *run) draw() {
	u := &turn{ballot: b(1+n.r.Intn(2+len(n.turns)), 1+n.r.Intn(len(n.members))), from: 1 + n.r.Intn(2)*n.r.Intn(lastSlot)}
	for _, other := range n.turns {
		if other.ballot == u.ballot {
			return
		}
	}
	n.turns = append(n.turns, u)
	n.send('q', len(n.turns)-1, nil)
}

// send sends a turn's letter to all nodes.
func (n *run) send(kind byte, at int, votes []api.Vote) {
	for node := 1; node <= len(n.members); node++ {
		n.way = append(n.way, letter{kind, at, node, votes})
	}
}

func (n *run) propose(at int, values map[int]string) {
	u := n.turns[at]
	u.proposed = values
	for slot, value := range sorted(values) {
		n.send('v', at, []api.Vote{vote(slot, u.ballot, value)})
	}
}

// sorted tells values by rising slots, so that a run hangs on its seed alone.
func sorted(values map[int]string) func(yield func(int, string) bool) {
	return func(yield func(int, string) bool) {
		for slot := 1; slot <= lastSlot; slot++ {
			if value, is := values[slot]; is && !yield(slot, value) {
				return
			}
		}
	}
}

// take lets a letter come.
func (n *run) take(l letter) {
	a, u := n.members[l.node-1], n.turns[l.at]
	switch l.kind {
	case 'q':
		if votes, e := a.Prepare(u.ballot, u.from); e == api.OK {
			n.way = append(n.way, letter{'p', l.at, l.node, votes})
		}
	case 'p':
		u.hear(l.node, l.votes)
		if n.r.Intn(3) > 0 {
			n.decide(l.at)
		}
	case 'v':
		v := l.votes[0]
		if a.Accept(v) == api.OK {
			n.cast[cast{v.Slot, v.Ballot, l.node}] = string(v.Value)
		}
	}
}

// padded is promises, and those of all other nodes as if they had no votes.
func padded(heard []api.Promise, nodes int) []api.Promise {
	l := slices.Clone(heard)
	for node := 1; node <= nodes; node++ {
		if !slices.ContainsFunc(heard, func(p api.Promise) bool { return p.Node == node }) {
			l = append(l, by(node))
		}
	}
	return l
}

// decide lets a turn propose, if it has heard enough and has not yet.
func (n *run) decide(at int) {
	u := n.turns[at]
	if u.proposed != nil {
		return
	}
	values, is := u.ask(len(n.members), lastSlot, u.heard)
	if !is && n.rule.few {
		values, is = u.ask(len(n.members), lastSlot, padded(u.heard, len(n.members)))
	}
	if !is {
		n.seen["too few"]++
		return
	}
	own := u.fill(nil, lastSlot)
	for slot := range sorted(values) {
		switch values[slot] {
		case own[slot]:
			n.seen["its own"]++
		case "":
			n.seen["no bytes"]++
		default:
			n.seen["another's"]++
		}
	}
	if n.rule.own {
		values = own
	}
	n.propose(at, values)
}

// fall lets a member come back with what it had written down.
func (n *run) fall(node int) {
	a := n.members[node-1]
	if n.rule.forget {
		n.members[node-1] = accept.New()
		return
	}
	n.members[node-1], _ = accept.Load(a.Promised(), a.First(), a.Votes())
}

// step does one thing: a turn begins, a member falls, a question is asked once
// more, or a letter comes, is lost, or comes and stays on its way.
func (n *run) step() {
	k := n.r.Intn(100)
	switch {
	case k < 4 || len(n.way) == 0:
		n.draw()
		return
	case k < 6:
		n.fall(1 + n.r.Intn(len(n.members)))
		return
	case k < 8 && len(n.turns) > 0:
		n.send('q', n.r.Intn(len(n.turns)), nil)
		return
	}
	i := n.r.Intn(len(n.way))
	l := n.way[i]
	if k < 80 {
		n.way = slices.Delete(n.way, i, i+1)
	}
	if k >= 20 {
		n.take(l)
	}
}

// goes is the first thing that is wrong within a long run, and when; "" if
// nothing is.
func (n *run) goes(steps int) string {
	for at := range steps {
		n.step()
		if s := wrong(n.members, n.cast); s != "" {
			return fmt.Sprintf("step %d: of %d members, %s: %s", at, len(n.members), line(promises(n.members)), s)
		}
	}
	return ""
}

// P11.4, in long runs of up to five members, with many turns and slots.
func TestP11_4LongRuns(t *testing.T) {
	seen := map[string]int{}
	for seed := range 400 {
		n := newRun(seed, rule{})
		if s := n.goes(300); s != "" {
			t.Fatalf("run %d: %s", seed, s)
		}
		for what, count := range n.seen {
			seen[what] += count
		}
		seen["chosen"] += len(n.cast.chosen(len(n.members)))
		seen["told as chosen"] += len(Chosen(len(n.members), promises(n.members)))
	}
	for _, what := range []string{"too few", "its own", "no bytes", "another's", "chosen", "told as chosen"} {
		if seen[what] < 400 {
			t.Errorf("just %d times %q: the runs are too dull: %v", seen[what], what, seen)
		}
	}
}

// The runs would tell: where turns or members don't do as the chapter says, two
// values are chosen for one slot in some of them.
func TestP11_4RunsTellWhatIsWrong(t *testing.T) {
	for _, how := range []rule{{own: true}, {few: true}, {forget: true}} {
		told := 0
		for seed := range 200 {
			if newRun(seed, how).goes(300) != "" {
				told++
			}
		}
		if told == 0 {
			t.Errorf("%+v: nothing wrong in 200 runs", how)
		}
	}
}

// W7: a run hangs on what is handed in alone.
func TestP11_4SameAgain(t *testing.T) {
	for seed := range 20 {
		x, y := newRun(seed, rule{}), newRun(seed, rule{})
		x.goes(200)
		y.goes(200)
		if got, want := line(promises(y.members)), line(promises(x.members)); got != want || len(x.cast) != len(y.cast) {
			t.Errorf("run %d: %s, and once more: %s", seed, want, got)
		}
	}
}
