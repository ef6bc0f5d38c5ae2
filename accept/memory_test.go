package accept

import (
	"testing"

	"purse/api"
)

// spoil writes over all of b, and over the room behind its end.
func spoil(b []byte) {
	for i := range b[:cap(b)] {
		b[:cap(b)][i] = '!'
	}
}

// spoilVotes writes over votes, their values, and the room behind both.
func spoilVotes(l []api.Vote) {
	l = l[:cap(l)]
	for i := range l {
		spoil(l[i].Value)
		l[i] = vote(77, b(7, 7), "spoilt")
	}
}

func TestR3AcceptKeepsACopy(t *testing.T) {
	a := New()
	room := []byte("abcdef")
	takes(t, a, api.Vote{Slot: 1, Ballot: b(1, 1), Value: room[:2]}, api.Vote{Slot: 2, Ballot: b(1, 1), Value: room[2:4]})
	want(t, "Accept, refused", a.Accept(api.Vote{Slot: 0, Ballot: b(1, 1), Value: room}), api.ErrOld)
	if string(room) != "abcdef" {
		t.Errorf("what was handed in is %q", room)
	}
	spoil(room)
	stands(t, "what was handed in was changed", a, "1.1 | 1 | 1:1.1=ab 2:1.1=cd")
}

func TestR3LoadKeepsACopy(t *testing.T) {
	room := []byte("abcdef")
	votes := []api.Vote{{Slot: 4, Ballot: b(1, 1), Value: room[:2]}, {Slot: 6, Ballot: b(2, 1), Value: room[2:4]}, {Slot: 99, Ballot: b(9, 9), Value: room[4:]}}
	x, y := loads(t, b(3, 2), 4, votes[:2]...), loads(t, b(3, 2), 4, votes[:2]...)
	refused(t, "all three", b(3, 2), 4, votes...)
	if s := text(votes); s != "4:1.1=ab 6:2.1=cd 99:9.9=ef" {
		t.Errorf("what was handed in is %q", s)
	}
	spoilVotes(votes)
	stands(t, "what was handed in was changed", x, "3.2 | 4 | 4:1.1=ab 6:2.1=cd")
	takes(t, x, vote(4, b(3, 2), "new"))
	x.Forget(6)
	stands(t, "another one of the same list", y, "3.2 | 4 | 4:1.1=ab 6:2.1=cd")
}

// tellers are the calls that hand out votes: all three's.
func tellers() map[string]func(a *Acceptor) []api.Vote {
	return map[string]func(a *Acceptor) []api.Vote{
		"Votes": func(a *Acceptor) []api.Vote { return a.Votes() },
		"Prepare": func(a *Acceptor) []api.Vote {
			l, _ := a.Prepare(a.Promised(), 1)
			return l
		},
		"Votes of a fork": func(a *Acceptor) []api.Vote { return a.Fork().Votes() },
	}
}

func TestR3HandsOutNewMemory(t *testing.T) {
	for what, tell := range tellers() {
		a := three(t)
		f := a.Fork()
		first, second := tell(a), tell(a)
		spoilVotes(first)
		if s := text(second); s != "10:1.4=p 12:5.2=q 25:4.9=r" {
			t.Errorf("%s: two answers share memory: %q", what, s)
		}
		stands(t, what+": what was told was changed", a, threeLine)
		stands(t, what+": the fork", f, threeLine)
		spoil(second[1].Value)
		if s := text(second); s != "10:1.4=p 12:5.2=! 25:4.9=r" {
			t.Errorf("%s: values of one answer share memory: %q", what, s)
		}
		stands(t, what+": a value that was told was changed", a, threeLine)
	}
}

// What was told stays as it was, whatever is done then.
func TestR3ToldStays(t *testing.T) {
	for what, tell := range tellers() {
		a := three(t)
		l := tell(a)
		takes(t, a, vote(10, b(6, 1), "new"), vote(12, b(6, 1), "r"), vote(13, b(6, 1), "s"))
		a.Forget(13)
		if s := text(l); s != "10:1.4=p 12:5.2=q 25:4.9=r" {
			t.Errorf("%s: what was told is %q behind changes", what, s)
		}
	}
}

// One value, handed in for several slots and to several acceptors, stands in
// each by itself.
func TestR3OneValueOften(t *testing.T) {
	value := []byte("one")
	x, y := New(), New()
	for slot := 1; slot <= 3; slot++ {
		takes(t, x, api.Vote{Slot: slot, Ballot: b(1, 1), Value: value})
		takes(t, y, api.Vote{Slot: slot, Ballot: b(1, 1), Value: value})
	}
	spoil(x.Votes()[0].Value)
	spoil(value)
	for _, a := range []*Acceptor{x, y} {
		stands(t, "one value", a, "1.1 | 1 | 1:1.1=one 2:1.1=one 3:1.1=one")
	}
}

func TestP10_3ForkIsAlike(t *testing.T) {
	f := three(t).Fork()
	stands(t, "a fork", f, threeLine)
	want(t, "Accept by a lower ballot", f.Accept(vote(11, b(5, 1), "x")), api.ErrBallot)
	want(t, "Accept below first", f.Accept(vote(9, b(5, 2), "x")), api.ErrOld)
	want(t, "Accept behind the window", f.Accept(vote(26, b(5, 2), "x")), api.ErrFar)
	forgets(t, f, 10, 0, 10)
	stands(t, "a fork that has refused", f, threeLine)
	e := New().Fork()
	stands(t, "a fork of a new one", e, "0.0 | 1 | ")
	takes(t, e, vote(1, b(1, 1), "x"))
	stands(t, "a fork of a new one, with a vote", e, "1.1 | 1 | 1:1.1=x")
}

func TestP10_3ForksGoTheirOwnWays(t *testing.T) {
	changes := map[string]func(a *Acceptor){
		"Prepare":                   func(a *Acceptor) { a.Prepare(b(9, 1), 1) },
		"Accept":                    func(a *Acceptor) { takes(t, a, vote(11, b(5, 2), "new")) },
		"Accept of a greater one":   func(a *Acceptor) { takes(t, a, vote(11, b(6, 2), "new")) },
		"Accept in another's place": func(a *Acceptor) { takes(t, a, vote(12, b(5, 2), "z")) },
		"Forget":                    func(a *Acceptor) { forgets(t, a, 11, 1, 11) },
		"Forget of all":             func(a *Acceptor) { forgets(t, a, far, 3, far) },
	}
	for what, change := range changes {
		a := three(t)
		f := a.Fork()
		g := f.Fork()
		change(f)
		stands(t, what+" of its fork", a, threeLine)
		stands(t, what+" of what it was made of", g, threeLine)
		line := told(f)
		if line == threeLine {
			t.Errorf("%s changes nothing", what)
		}
		change(a)
		stands(t, what+" of all but one", g, threeLine)
		stands(t, what+" of both", a, line)
		stands(t, what+", the fork behind it", f, line)
	}
}

// Each writes its own vote for one slot.
func TestP10_3ForksVoteApart(t *testing.T) {
	a := three(t)
	f := a.Fork()
	g := f.Fork()
	takes(t, a, vote(11, b(5, 2), "a"))
	takes(t, f, vote(11, b(5, 3), "f"))
	takes(t, g, vote(11, b(5, 4), "g"))
	stands(t, "the acceptor", a, "5.2 | 10 | 10:1.4=p 11:5.2=a 12:5.2=q 25:4.9=r")
	stands(t, "its fork", f, "5.3 | 10 | 10:1.4=p 11:5.3=f 12:5.2=q 25:4.9=r")
	stands(t, "the fork's fork", g, "5.4 | 10 | 10:1.4=p 11:5.4=g 12:5.2=q 25:4.9=r")
}
