package choose

import (
	"fmt"
	"slices"
	"testing"

	"purse/accept"
	"purse/api"
)

// turn is a ballot, the slot from which it asks, who has promised it what, and
// what it has proposed for each slot; proposed is nil till it has.
type turn struct {
	ballot   api.Ballot
	from     int
	heard    []api.Promise
	proposed map[int]string
}

// hear keeps a node's promise, in the place of an earlier one.
func (u *turn) hear(node int, votes []api.Vote) {
	u.heard = slices.DeleteFunc(slices.Clone(u.heard), func(p api.Promise) bool { return p.Node == node })
	u.heard = append(u.heard, by(node, votes...))
}

// ask is what the turn has to propose for the slots up to last by these
// promises: what Open says, and values of its own behind that; false, if Open
// refuses.
func (u *turn) ask(nodes, last int, heard []api.Promise) (map[int]string, bool) {
	open, e := Open(nodes, u.from, heard)
	if e != api.OK {
		return nil, false
	}
	return u.fill(open, last), true
}

// fill is the values of open, and the turn's own for the slots behind.
func (u *turn) fill(open []api.Entry, last int) map[int]string {
	values := map[int]string{}
	for slot := u.from; slot <= last; slot++ {
		values[slot] = fmt.Sprintf("%d.%d", u.ballot.Round, u.ballot.Node)
	}
	for _, entry := range open {
		values[entry.Slot] = string(entry.Value)
	}
	return values
}

// cast is a vote that a node once had.
type cast struct {
	slot   int
	ballot api.Ballot
	node   int
}

// tally is all votes that were ever there, and their values.
type tally map[cast]string

// chosen is the values of which it is so, at any time, that a majority has voted
// for them by one ballot.
func (y tally) chosen(nodes int) map[int][]string {
	type key struct {
		slot   int
		ballot api.Ballot
		value  string
	}
	count := map[key]int{}
	for c, value := range y {
		count[key{c.slot, c.ballot, value}]++
	}
	values := map[int][]string{}
	for k, n := range count {
		if n >= majority(nodes) && !slices.Contains(values[k.slot], k.value) {
			values[k.slot] = append(values[k.slot], k.value)
		}
	}
	return values
}

// promises is what all members have.
func promises(members []*accept.Acceptor) []api.Promise {
	var l []api.Promise
	for i, a := range members {
		l = append(l, by(i+1, a.Votes()...))
	}
	return l
}

// wrong is what of P11.4 does not hold, or what Chosen tells that no majority has
// voted for; "" if all is well.
func wrong(members []*accept.Acceptor, y tally) string {
	values := y.chosen(len(members))
	for slot, l := range values {
		if len(l) > 1 {
			return fmt.Sprintf("for the slot %d these are chosen: %q", slot, l)
		}
	}
	for _, entry := range Chosen(len(members), promises(members)) {
		if l := values[entry.Slot]; len(l) != 1 || l[0] != string(entry.Value) {
			return fmt.Sprintf("Chosen tells %d=%s; what is chosen: %q", entry.Slot, entry.Value, l)
		}
	}
	return ""
}

// world is members and turns at one moment of a walk through all ways.
type world struct {
	members []*accept.Acceptor
	turns   []turn
	cast    tally
	last    int
}

func newWorld(nodes, last int, ballots ...api.Ballot) *world {
	w := &world{cast: tally{}, last: last}
	for range nodes {
		w.members = append(w.members, accept.New())
	}
	for i, ballot := range ballots {
		u := turn{ballot: ballot, from: 1}
		if i == 0 {
			u.proposed = u.fill(nil, last)
		}
		w.turns = append(w.turns, u)
	}
	return w
}

func (w *world) fork() *world {
	f := &world{members: slices.Clone(w.members), turns: slices.Clone(w.turns), cast: tally{}, last: w.last}
	for c, value := range w.cast {
		f.cast[c] = value
	}
	return f
}

// key is all that a world's later ways hang on, and what was cast.
func (w *world) key() string {
	out := ""
	for i, a := range w.members {
		out += fmt.Sprint(a.Promised(), line(all(by(i+1, a.Votes()...))))
	}
	for _, u := range w.turns {
		heard := slices.Clone(u.heard)
		slices.SortFunc(heard, func(p, q api.Promise) int { return p.Node - q.Node })
		if u.proposed != nil {
			heard = nil
		}
		out += fmt.Sprint(";", line(heard), u.proposed)
	}
	return fmt.Sprint(out, ";", w.cast)
}

// prepare lets a member get what a turn asks of it; false if it refuses.
func (w *world) prepare(at, node int) (*world, bool) {
	f := w.fork()
	f.members[node-1] = w.members[node-1].Fork()
	votes, e := f.members[node-1].Prepare(w.turns[at].ballot, w.turns[at].from)
	if e == api.OK {
		f.turns[at].hear(node, votes)
	}
	return f, e == api.OK
}

// vote lets a member get what a turn has proposed for a slot; false if it
// refuses.
func (w *world) vote(at, slot, node int) (*world, bool) {
	f := w.fork()
	f.members[node-1] = w.members[node-1].Fork()
	u := w.turns[at]
	e := f.members[node-1].Accept(vote(slot, u.ballot, u.proposed[slot]))
	if e == api.OK {
		f.cast[cast{slot, u.ballot, node}] = u.proposed[slot]
	}
	return f, e == api.OK
}

// proposals is a world for each set of the promises which a turn may have heard
// when it proposes: what is lost or late is not in it.
func (w *world) proposals(at int) []*world {
	var out []*world
	u := w.turns[at]
	for set := range 1 << len(u.heard) {
		var heard []api.Promise
		for i, p := range u.heard {
			if set>>i&1 == 1 {
				heard = append(heard, p)
			}
		}
		if values, is := u.ask(len(w.members), w.last, heard); is {
			f := w.fork()
			f.turns[at].proposed = values
			out = append(out, f)
		}
	}
	return out
}

// next is all worlds that one step leads to.
func (w *world) next() []*world {
	var out []*world
	add := func(f *world, is bool) {
		if is {
			out = append(out, f)
		}
	}
	for at, u := range w.turns {
		for node := 1; node <= len(w.members); node++ {
			add(w.prepare(at, node))
			for slot := 1; u.proposed != nil && slot <= w.last; slot++ {
				add(w.vote(at, slot, node))
			}
		}
		if u.proposed == nil {
			out = append(out, w.proposals(at)...)
		}
	}
	return out
}

// P11.4, for all that may happen to few members and few turns: whatever comes, in
// whatever order, often or never.
func TestP11_4EachWay(t *testing.T) {
	begins := []struct {
		what  string
		start *world
	}{
		{"three members, one slot, turns of one round", newWorld(3, 1, b(1, 1), b(1, 2), b(1, 3))},
		{"three members, one slot, turns of three rounds", newWorld(3, 1, b(1, 3), b(2, 1), b(3, 2))},
		{"three members, two slots, two turns", newWorld(3, 2, b(1, 1), b(1, 2))},
		{"two members, one slot, four turns", newWorld(2, 1, b(1, 1), b(1, 2), b(2, 1), b(3, 1))},
		{"two members, two slots, three turns", newWorld(2, 2, b(1, 1), b(2, 1), b(2, 2))},
		{"four members, one slot, two turns", newWorld(4, 1, b(1, 3), b(2, 2))},
		{"five members, one slot, two turns", newWorld(5, 1, b(1, 4), b(1, 5))},
		{"one member, two slots, three turns", newWorld(1, 2, b(1, 1), b(2, 1), b(3, 1))},
	}
	for _, r := range begins {
		t.Run(r.what, func(t *testing.T) {
			t.Parallel()
			walk(t, r.start)
		})
	}
}

// walk goes from a world to all that its steps lead to, and fails at the first
// one in which something is wrong.
func walk(t *testing.T, start *world) {
	seen := map[string]int{start.key(): 1}
	chosen := 0
	for work := []*world{start}; len(work) > 0; {
		w := work[len(work)-1]
		work = work[:len(work)-1]
		if s := wrong(w.members, w.cast); s != "" {
			t.Fatalf("%s: %s", w.key(), s)
		}
		if len(w.cast.chosen(len(w.members))) > 0 {
			chosen++
		}
		for _, f := range w.next() {
			if k := f.key(); seen[k] == 0 {
				seen[k] = 1
				work = append(work, f)
			}
		}
	}
	if chosen < 100 {
		t.Errorf("of %d worlds just in %d something is chosen", len(seen), chosen)
	}
}
