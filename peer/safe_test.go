package peer

import (
	"fmt"
	"math/rand"
	"slices"
	"testing"

	"purse/api"
)

// come lets those letters under way come that a test picks, till there are none
// of them; all others stay under way.
func (g *group) come(pick func(l api.Letter) bool) {
	g.t.Helper()
	for {
		at := slices.IndexFunc(g.post, pick)
		if at < 0 {
			return
		}
		if i := g.deliver(at); i > 0 {
			g.read(i, all)
		}
	}
}

// among picks the letters that go among some nodes.
func among(nodes ...int) func(l api.Letter) bool {
	return func(l api.Letter) bool { return slices.Contains(nodes, l.From) && slices.Contains(nodes, l.To) }
}

// kind picks the letters of a kind that go from one to another.
func kind(k, from, to int) func(l api.Letter) bool {
	return func(l api.Letter) bool { return l.Kind == k && l.From == from && l.To == to }
}

// take hides a letter under way, and is it.
func (g *group) take(k, from, to int) api.Letter {
	g.t.Helper()
	at := slices.IndexFunc(g.post, kind(k, from, to))
	if at < 0 {
		g.fail("no letter of the kind %d from %d to %d is under way", k, from, to)
	}
	l := g.post[at]
	g.post = slices.Delete(g.post, at, at+1)
	return l
}

func (g *group) draw(i int) {
	g.t.Helper()
	g.seats[i].p.Draw()
	g.read(i, all)
}

func (g *group) tick(i int) {
	g.t.Helper()
	g.seats[i].p.Tick()
	g.read(i, all)
}

func (g *group) lead(i int) {
	g.t.Helper()
	if !g.seats[i].p.Leads() {
		g.fail("the member %d does not lead", i)
	}
}

func (g *group) putForth(i int) {
	g.t.Helper()
	want(g.t, g.what, g.propose(i, 0), api.OK)
	g.read(i, all)
}

// deposed is five members, where 1 leads and does not know that 3 has come to
// lead behind it: 1 and 2 have voted for what 1 has proposed for the slot 2, while
// 3, 4 and 5 have chosen something else. Of 1 a LetAsk for the slot 2 is late, and
// a LetPromise of 4, which is told, too.
func deposed(t *testing.T) (g *group, ask, promise api.Letter) {
	t.Helper()
	g = newGroup(t, "a leader that is none any more", 5, rand.New(rand.NewSource(1)))
	g.readAll()
	g.draw(3)
	g.come(among(3, 4, 5))
	g.lead(3)
	g.putForth(3)
	g.come(among(3, 4, 5))
	g.compact(3, 1)
	g.tick(3)
	g.post = slices.DeleteFunc(g.post, func(l api.Letter) bool { return l.To <= 2 && l.Kind != api.LetBeat })
	g.come(kind(api.LetBeat, 3, 1))
	g.come(kind(api.LetAsk, 1, 3))
	g.come(kind(api.LetPiece, 3, 1))
	ask = g.take(api.LetAsk, 1, 3)
	g.post = nil

	g.draw(1)
	g.come(kind(api.LetPrepare, 1, 2))
	g.come(kind(api.LetPrepare, 1, 4))
	promise = g.post[len(g.post)-1]
	g.come(kind(api.LetPromise, 2, 1))
	g.come(kind(api.LetPromise, 4, 1))
	g.lead(1)
	g.come(among(1, 2))
	g.putForth(1)
	g.come(among(1, 2))
	g.post = nil

	g.draw(3)
	g.come(among(3, 4, 5))
	g.draw(3) // now it is above the ballot that 4 has promised
	g.come(among(3, 4, 5))
	g.lead(3)
	g.putForth(3)
	g.come(among(3, 4, 5))
	g.post = nil
	if c1, c2, c3 := g.seats[1].p.Commit(), g.seats[2].p.Commit(), g.seats[3].p.Commit(); c1 != 1 || c2 != 1 || c3 != 2 || !g.seats[1].p.Leads() {
		g.fail("commits %d, %d, %d", c1, c2, c3)
	}
	if a, b := g.seats[2].p.q.votes[2], g.known[1]; string(a.Value) == b || a.Ballot != g.seats[1].p.Ballot() {
		g.fail("the member 2 has voted for %s, chosen is %q", showVote(a), b)
	}
	return g, ask, promise
}

// tells lets 1 tell 2 all that it has to tell, now and at Ticks; and lets all
// come together then.
func (g *group) tells() {
	g.t.Helper()
	for range 3 {
		g.come(among(1, 2))
		g.tick(1)
	}
	g.come(among(1, 2))
	g.calm(5)
}

// Were a leader to learn that another value is chosen than it had proposed, and
// to tell of its commit by its own ballot, those that have voted for its value
// would take that as chosen.
func TestP13_8LeaderThatLearnsOfAnotherValue(t *testing.T) {
	g, ask, _ := deposed(t)
	g.post = append(g.post, ask)
	g.come(among(1, 3))
	if g.seats[1].p.Leads() || g.seats[1].p.Commit() != 2 {
		g.fail("it leads on: %v, with the commit %d", g.seats[1].p.Leads(), g.seats[1].p.Commit())
	}
	g.tells()
}

// The same, by an image, of which it can't know what it has for the slot.
func TestP13_8LeaderThatGetsAnImage(t *testing.T) {
	g, ask, _ := deposed(t)
	g.compact(3, 2)
	g.read(3, all)
	g.post = append(g.post, ask)
	g.come(kind(api.LetAsk, 1, 3))
	g.come(kind(api.LetPiece, 3, 1))
	if g.seats[1].p.Leads() || g.seats[1].p.Commit() != 2 {
		g.fail("it leads on: %v, with the commit %d", g.seats[1].p.Leads(), g.seats[1].p.Commit())
	}
	g.tells()
}

// The same, where a promise that was given to it long ago comes once more: that
// is none for now.
func TestP13_8LeaderThatGetsAnImageAndALatePromise(t *testing.T) {
	g, ask, promise := deposed(t)
	if promise.Kind != api.LetPromise || promise.From != 4 {
		g.fail("%s", showLetter(promise))
	}
	g.compact(3, 2)
	g.read(3, all)
	g.post = append(g.post, ask)
	g.come(kind(api.LetAsk, 1, 3))
	g.come(kind(api.LetPiece, 3, 1))
	g.post = append(g.post, promise)
	g.come(kind(api.LetPromise, 4, 1))
	g.come(among(1, 2))
	if g.seats[1].p.Leads() {
		g.fail("it leads by a promise of long ago")
	}
	g.tells()
}

// A leader that gets an image in the place of open slots leads on, once a majority
// promises its ballot anew; what it has proposed behind the image is proposed once
// more.
func TestLeaderThatGetsAnImageAsksAnew(t *testing.T) {
	p := candidate(t, 5, 0)
	promise := func(from, slot, commit int, l ...api.Vote) {
		t.Helper()
		step(t, p, api.Letter{Kind: api.LetPromise, From: from, To: 1, Ballot: bal(1, 1), Slot: slot, Commit: commit, Votes: l})
	}
	promise(4, 1, 0, votes(1, 4, bal(1, 1))...)
	promise(4, 5, 0)
	promise(2, 1, 0)
	want(t, "Propose", p.Propose([]byte("x")), api.OK)
	want(t, "Propose", p.Propose([]byte("y")), api.OK)
	p.Ready()
	stands(t, "a leader", p, "true 1 0 {1 1}")
	sendPieces(t, p, 3, 4, "image")
	stands(t, "an image", p, "false 0 4 {1 1}")
	// From 5 on it has asked 4 already.
	ready(t, "an image", p, `image 4="image"; prepare 1>2 {1 1} at 6, prepare 1>3 {1 1} at 6, prepare 1>4 {1 1} at 6, prepare 1>5 {1 1} at 6, ask 1>3 at 5; ; image 4="image"`)
	want(t, "Propose", p.Propose([]byte("z")), api.ErrLeader)
	step(t, p, api.Letter{Kind: api.LetAccepted, From: 2, To: 1, Ballot: bal(1, 1), Slot: 5})
	promise(4, 5, 0)
	promise(2, 1, 0)
	promise(3, 5, 4)
	stands(t, "promises of then", p, "false 0 4 {1 1}")
	p.Tick()
	ready(t, "Tick", p, "; prepare 1>2 {1 1} at 6, prepare 1>3 {1 1} at 6, prepare 1>4 {1 1} at 6, prepare 1>5 {1 1} at 6; ")
	promise(3, 6, 4)
	promise(4, 6, 0, votes(6, 4, bal(1, 1))...)
	ready(t, "four votes", p, "; prepare 1>4 {1 1} at 10; ")
	promise(4, 10, 0)
	stands(t, "promises of now", p, "true 1 4 {1 1}")
	r := p.Ready()
	var got []string
	for _, l := range r.Letters {
		if l.To == 2 {
			got = append(got, showEntry(l.Entries[0]))
		}
	}
	// Its own votes stand: w6, which was told by hand, is of the same ballot, and
	// the vote of the least node counts.
	if line := `[5="x" 6="y" 7="w7" 8="w8" 9="w9"]`; fmt.Sprint(got) != line {
		t.Errorf("it proposes %s; want %s", got, line)
	}
	want(t, "Propose", p.Propose([]byte("z")), api.OK)
	if l := p.Ready().Letters[0]; l.Slot != 10 {
		t.Errorf("the next slot is %d; want 10", l.Slot)
	}
	// With a new ballot, it counts anew.
	want(t, "Draw", p.Draw(), api.OK)
	if l := p.Ready().Letters[0]; l.Slot != 5 || l.Ballot != bal(2, 1) {
		t.Error(showLetter(l))
	}
	step(t, p, api.Letter{Kind: api.LetPromise, From: 2, To: 1, Ballot: bal(2, 1), Slot: 5, Commit: 4})
	step(t, p, api.Letter{Kind: api.LetPromise, From: 3, To: 1, Ballot: bal(2, 1), Slot: 5, Commit: 4})
	stands(t, "a new ballot", p, "true 1 4 {2 1}")
	p.Ready()
	sendPieces(t, p, 3, 8, "eight")
	if l := p.Ready().Letters[0]; l.Slot != 9 || l.Kind != api.LetPrepare {
		t.Error(showLetter(l))
	}
}

// A leader that has nothing open takes an image, and what is chosen, and leads on.
func TestLeaderWithNothingOpen(t *testing.T) {
	p := leader(t, 3, 2)
	sendPieces(t, p, 3, 4, "image")
	stands(t, "an image", p, "true 1 4 {1 1}")
	step(t, p, api.Letter{Kind: api.LetLearn, From: 2, To: 1, Slot: 5, Commit: 6, Entries: entries(5, 2)})
	stands(t, "entries", p, "true 1 6 {1 1}")
	p.Ready()
	want(t, "Propose", p.Propose([]byte("x")), api.OK)
	ready(t, "Propose", p, `vote 7{1 1}"x"; accept 1>2 {1 1} at 7 commit 6 7="x", accept 1>3 {1 1} at 7 commit 6 7="x"; `)
}

// A leader that learns what it has proposed leads on, and what was chosen behind
// that, is known then.
func TestLeaderThatLearnsWhatItHasProposed(t *testing.T) {
	p := leader(t, 5, 0)
	for slot := 1; slot <= 4; slot++ {
		want(t, "Propose", p.Propose([]byte(fmt.Sprint("e", slot))), api.OK)
	}
	for _, from := range []int{2, 3} {
		step(t, p, api.Letter{Kind: api.LetAccepted, From: from, To: 1, Ballot: bal(1, 1), Slot: 3})
	}
	p.Ready()
	step(t, p, api.Letter{Kind: api.LetLearn, From: 4, To: 1, Slot: 1, Commit: 3, Entries: entries(1, 2)})
	ready(t, "learnt", p, `entry 1="e1", entry 2="e2", entry 3="e3"; ; 1="e1", 2="e2", 3="e3"`)
	stands(t, "learnt", p, "true 1 3 {1 1}")
	step(t, p, api.Letter{Kind: api.LetLearn, From: 4, To: 1, Slot: 4, Commit: 6, Entries: one(4, "other")})
	ready(t, "another value", p, `entry 4="other"; ask 1>4 at 5; 4="other"`)
	stands(t, "another value", p, "false 0 4 {0 0}")
}
