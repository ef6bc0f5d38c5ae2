package accept

import (
	"fmt"
	"testing"

	"purse/api"
)

func TestExamples(t *testing.T) {
	a := New()
	l, e := a.Prepare(b(2, 1), 1)
	want(t, "Prepare({2, 1}, 1)", e, api.OK)
	if len(l) != 0 {
		t.Errorf("Prepare({2, 1}, 1): %q; want none", text(l))
	}
	want(t, "Accept({1, {1, 3}, x})", a.Accept(vote(1, b(1, 3), "x")), api.ErrBallot)
	want(t, "Accept({1, {2, 1}, x})", a.Accept(vote(1, b(2, 1), "x")), api.OK)
	l, e = a.Prepare(b(3, 2), 1)
	want(t, "Prepare({3, 2}, 1)", e, api.OK)
	if s := text(l); s != "1:2.1=x" {
		t.Errorf("Prepare({3, 2}, 1): %q; want the vote for 1", s)
	}
	want(t, "Accept({2, {2, 1}, y})", a.Accept(vote(2, b(2, 1), "y")), api.ErrBallot)
	forgets(t, a, 2, 1, 2)
	want(t, "Accept({1, {3, 2}, z})", a.Accept(vote(1, b(3, 2), "z")), api.ErrOld)
	stands(t, "behind the examples", a, "3.2 | 2 | ")
}

func TestNewIsEmpty(t *testing.T) {
	stands(t, "New", New(), "0.0 | 1 | ")
	x, y := New(), New()
	takes(t, x, vote(1, b(1, 1), "x"))
	stands(t, "one that was made beside it", y, "0.0 | 1 | ")
}

func TestR1Nil(t *testing.T) {
	var none *Acceptor
	for _, ballot := range []api.Ballot{{}, b(1, 1), b(low, top)} {
		for _, n := range []int{low, -1, 0, 1, far, top} {
			if l, e := none.Prepare(ballot, n); l != nil || e != api.ErrNil {
				t.Errorf("Prepare(%v, %d) of nil: %v, error %d; want 2", ballot, n, l, e)
			}
			want(t, "Accept of nil", none.Accept(vote(n, ballot, "x")), api.ErrNil)
			if gone := none.Forget(n); gone != 0 {
				t.Errorf("Forget(%d) of nil: %d", n, gone)
			}
		}
	}
	want(t, "Accept of too much, of nil", none.Accept(vote(1, b(1, 1), long(api.MaxValue+1))), api.ErrNil)
	if p, first, l := none.Promised(), none.First(), none.Votes(); p != (api.Ballot{}) || first != 0 || l != nil {
		t.Errorf("of nil: Promised %v, First %d, Votes %v", p, first, l)
	}
	if f := none.Fork(); f != nil {
		t.Errorf("Fork of nil: %v", f)
	}
}

// three is an acceptor with {5, 2} promised, and the votes 10, 12 and 25, the
// last one that may be.
func three(t testing.TB) *Acceptor {
	return loads(t, b(5, 2), 10, vote(10, b(1, 4), "p"), vote(12, b(5, 2), "q"), vote(25, b(4, 9), "r"))
}

const threeLine = "5.2 | 10 | 10:1.4=p 12:5.2=q 25:4.9=r"

// turns are ballots, and what three's acceptor says of each, where nothing else
// is wrong.
func turns() map[api.Ballot]api.Errno {
	return map[api.Ballot]api.Errno{
		b(5, 2): api.OK, b(5, 3): api.OK, b(6, 1): api.OK, b(5, top): api.OK, b(top, 1): api.OK, b(top, top): api.OK, b(6, 2): api.OK,
		b(5, 1): api.ErrBallot, b(4, 2): api.ErrBallot, b(4, 3): api.ErrBallot, b(4, top): api.ErrBallot, b(1, 1): api.ErrBallot, b(1, top): api.ErrBallot,
		b(0, 0): api.ErrArg, b(0, 1): api.ErrArg, b(1, 0): api.ErrArg, b(0, 9): api.ErrArg, b(9, 0): api.ErrArg, b(-1, 1): api.ErrArg, b(9, -1): api.ErrArg,
		b(-1, -1): api.ErrArg, b(low, 1): api.ErrArg, b(9, low): api.ErrArg, b(low, low): api.ErrArg, b(low, top): api.ErrArg, b(top, low): api.ErrArg,
		b(0, top): api.ErrArg, b(top, 0): api.ErrArg,
	}
}

func TestP10_1Ballots(t *testing.T) {
	for ballot, e := range turns() {
		for _, from := range []int{low, 10, top} {
			a := three(t)
			l, got := a.Prepare(ballot, from)
			want(t, fmt.Sprintf("Prepare(%v, %d)", ballot, from), got, e)
			if e == api.OK {
				stands(t, "what was prepared", a, shown(ballot, 10, "10:1.4=p 12:5.2=q 25:4.9=r"))
				continue
			}
			stands(t, "what was refused", a, threeLine)
			if l != nil {
				t.Errorf("Prepare(%v, %d): beside an error %q", ballot, from, text(l))
			}
		}
	}
}

// Of a new acceptor, that has promised nothing, each ballot that may be is
// promised.
func TestP10_1FirstBallots(t *testing.T) {
	for _, ballot := range []api.Ballot{b(1, 1), b(1, top), b(top, 1), b(top, top), b(2, 5)} {
		a := New()
		l, e := a.Prepare(ballot, 1)
		want(t, fmt.Sprintf("Prepare(%v, 1)", ballot), e, api.OK)
		stands(t, "a new one", a, shown(ballot, 1, text(l)))
		if len(l) != 0 {
			t.Errorf("Prepare(%v, 1) of a new one: %q", ballot, text(l))
		}
	}
	for _, ballot := range []api.Ballot{b(0, 0), b(0, 1), b(1, 0), b(-1, 3), b(3, -1), b(low, low)} {
		a := New()
		_, e := a.Prepare(ballot, 1)
		want(t, fmt.Sprintf("Prepare(%v, 1)", ballot), e, api.ErrArg)
		stands(t, "a new one", a, "0.0 | 1 | ")
	}
}

func TestP10_1From(t *testing.T) {
	rows := []struct {
		from int
		line string
	}{
		{low, "10:1.4=p 12:5.2=q 25:4.9=r"},
		{-1, "10:1.4=p 12:5.2=q 25:4.9=r"},
		{0, "10:1.4=p 12:5.2=q 25:4.9=r"},
		{1, "10:1.4=p 12:5.2=q 25:4.9=r"},
		{9, "10:1.4=p 12:5.2=q 25:4.9=r"},
		{10, "10:1.4=p 12:5.2=q 25:4.9=r"},
		{11, "12:5.2=q 25:4.9=r"},
		{12, "12:5.2=q 25:4.9=r"},
		{13, "25:4.9=r"},
		{24, "25:4.9=r"},
		{25, "25:4.9=r"},
		{26, ""},
		{27, ""},
		{far, ""},
		{top - 1, ""},
		{top, ""},
	}
	a := three(t)
	for _, r := range rows {
		l, e := a.Prepare(b(5, 2), r.from)
		want(t, fmt.Sprintf("Prepare({5, 2}, %d)", r.from), e, api.OK)
		if s := text(l); s != r.line {
			t.Errorf("Prepare({5, 2}, %d): %q; want %q", r.from, s, r.line)
		}
	}
	stands(t, "to prepare by what is promised", a, threeLine)
}

func TestP10_2Ballots(t *testing.T) {
	for ballot, e := range turns() {
		a := three(t)
		want(t, fmt.Sprintf("Accept of %v", ballot), a.Accept(vote(11, ballot, "new")), e)
		if e != api.OK {
			stands(t, fmt.Sprintf("Accept of %v, refused", ballot), a, threeLine)
			continue
		}
		votes := fmt.Sprintf("10:1.4=p 11:%d.%d=new 12:5.2=q 25:4.9=r", ballot.Round, ballot.Node)
		stands(t, "what was accepted", a, shown(ballot, 10, votes))
	}
}

func TestP10_2Values(t *testing.T) {
	for _, size := range []int{0, 1, 2, api.MaxValue - 1, api.MaxValue} {
		a := New()
		takes(t, a, vote(1, b(1, 1), long(size)))
		stands(t, fmt.Sprint("a value of ", size), a, "1.1 | 1 | 1:1.1="+long(size))
	}
	for _, size := range []int{api.MaxValue + 1, api.MaxValue + 2, 1 << 20} {
		a := three(t)
		want(t, fmt.Sprint("Accept of a value of ", size), a.Accept(vote(11, b(9, 9), long(size))), api.ErrArg)
		stands(t, fmt.Sprint("a value of ", size), a, threeLine)
	}
	a := three(t)
	takes(t, a, api.Vote{Slot: 10, Ballot: b(5, 2)}, api.Vote{Slot: 25, Ballot: b(5, 2), Value: []byte{}})
	stands(t, "a nil value, and an empty one", a, "5.2 | 10 | 10:5.2= 12:5.2=q 25:5.2=")
	takes(t, a, vote(11, b(5, 2), "\x00\xff\n"))
	stands(t, "any bytes", a, "5.2 | 10 | 10:5.2= 11:5.2=\x00\xff\n 12:5.2=q 25:5.2=")
}

func TestP10_2Slots(t *testing.T) {
	for slot := 10; slot < 26; slot++ {
		a := loads(t, b(5, 2), 10)
		takes(t, a, vote(slot, b(5, 3), "x"))
		stands(t, fmt.Sprint("the slot ", slot), a, fmt.Sprintf("5.3 | 10 | %d:5.3=x", slot))
	}
	for slot, e := range map[int]api.Errno{
		low: api.ErrOld, low + 1: api.ErrOld, -1: api.ErrOld, 0: api.ErrOld, 1: api.ErrOld, 8: api.ErrOld, 9: api.ErrOld,
		26: api.ErrFar, 27: api.ErrFar, far: api.ErrFar, top - 1: api.ErrFar, top: api.ErrFar,
	} {
		a := three(t)
		want(t, fmt.Sprint("Accept for the slot ", slot), a.Accept(vote(slot, b(6, 1), "x")), e)
		stands(t, fmt.Sprint("the slot ", slot), a, threeLine)
	}
}

// Of a new acceptor the slots go from 1 to 16; of one whose first slot is the
// greatest that may be, up to 15 behind it.
func TestP10_2SlotsAtTheEnds(t *testing.T) {
	for _, first := range []int{1, far} {
		a := loads(t, b(1, 1), first)
		want(t, "Accept below the first slot", a.Accept(vote(first-1, b(1, 1), "x")), api.ErrOld)
		want(t, "Accept behind the last slot", a.Accept(vote(first+16, b(1, 1), "x")), api.ErrFar)
		takes(t, a, vote(first+15, b(1, 1), "z"), vote(first, b(1, 1), "a"))
		stands(t, "both ends", a, fmt.Sprintf("1.1 | %d | %d:1.1=a %d:1.1=z", first, first, first+15))
	}
}

func TestP10_2InThePlaceOfAnother(t *testing.T) {
	a := three(t)
	takes(t, a, vote(12, b(5, 2), "same ballot"))
	stands(t, "by the same ballot", a, "5.2 | 10 | 10:1.4=p 12:5.2=same ballot 25:4.9=r")
	takes(t, a, vote(12, b(5, 2), ""))
	stands(t, "by the same ballot, without bytes", a, "5.2 | 10 | 10:1.4=p 12:5.2= 25:4.9=r")
	takes(t, a, vote(12, b(5, 3), "greater node"), vote(10, b(7, 1), "greater round"), vote(25, b(7, 1), "r"))
	stands(t, "by a greater one", a, "7.1 | 10 | 10:7.1=greater round 12:5.3=greater node 25:7.1=r")
	want(t, "Accept by a lower one", a.Accept(vote(12, b(6, 9), "lower")), api.ErrBallot)
	stands(t, "by a lower one", a, "7.1 | 10 | 10:7.1=greater round 12:5.3=greater node 25:7.1=r")
}

// All votes that may be, in orders that do not rise.
func TestP10_2Full(t *testing.T) {
	for _, step := range []int{1, 3, 5, 7, 15} {
		a, line := loads(t, b(1, 1), 10), ""
		for i := range api.MaxVotes {
			takes(t, a, vote(10+i*step%api.MaxVotes, b(2, 2), fmt.Sprint(i*step%api.MaxVotes)))
		}
		for i := range api.MaxVotes {
			line += fmt.Sprintf(" %d:2.2=%d", 10+i, i)
		}
		stands(t, "full", a, "2.2 | 10 |"+line)
		l, _ := a.Prepare(b(2, 2), 10)
		if s := " " + text(l); s != line {
			t.Errorf("Prepare of a full one: %q; want %q", s, line)
		}
		takes(t, a, vote(17, b(2, 2), "7"))
		stands(t, "full, and one once more", a, "2.2 | 10 |"+line)
	}
}

// R5: of several errors the one that P10.1 or P10.2 names first.
func TestR5Order(t *testing.T) {
	rows := []struct {
		what string
		v    api.Vote
		e    api.Errno
	}{
		{"no ballot, too much, an old slot", vote(9, b(0, 1), long(api.MaxValue+1)), api.ErrArg},
		{"no ballot, a far slot", vote(26, b(1, 0), "x"), api.ErrArg},
		{"no ballot, an old slot", vote(0, b(0, 0), "x"), api.ErrArg},
		{"too much, a lower ballot", vote(11, b(1, 1), long(api.MaxValue+1)), api.ErrArg},
		{"too much, an old slot", vote(9, b(6, 1), long(api.MaxValue+1)), api.ErrArg},
		{"too much, a far slot", vote(top, b(6, 1), long(api.MaxValue+1)), api.ErrArg},
		{"a lower ballot, an old slot", vote(9, b(5, 1), "x"), api.ErrBallot},
		{"a lower ballot, a far slot", vote(26, b(4, 9), "x"), api.ErrBallot},
		{"a lower ballot, the least slot", vote(low, b(5, 1), "x"), api.ErrBallot},
		{"a ballot that is no one's, below what is promised", vote(11, b(4, 0), "x"), api.ErrArg},
	}
	a := three(t)
	for _, r := range rows {
		want(t, r.what, a.Accept(r.v), r.e)
		stands(t, r.what, a, threeLine)
	}
	_, e := a.Prepare(b(4, 0), 1)
	want(t, "Prepare by no one's, below what is promised", e, api.ErrArg)
	stands(t, "no one's", a, threeLine)
}

func TestP10_3Forget(t *testing.T) {
	rows := []struct {
		below, gone, first int
		votes              string
	}{
		{low, 0, 10, "10:1.4=p 12:5.2=q 25:4.9=r"},
		{-1, 0, 10, "10:1.4=p 12:5.2=q 25:4.9=r"},
		{0, 0, 10, "10:1.4=p 12:5.2=q 25:4.9=r"},
		{1, 0, 10, "10:1.4=p 12:5.2=q 25:4.9=r"},
		{9, 0, 10, "10:1.4=p 12:5.2=q 25:4.9=r"},
		{10, 0, 10, "10:1.4=p 12:5.2=q 25:4.9=r"},
		{11, 1, 11, "12:5.2=q 25:4.9=r"},
		{12, 1, 12, "12:5.2=q 25:4.9=r"},
		{13, 2, 13, "25:4.9=r"},
		{25, 2, 25, "25:4.9=r"},
		{26, 3, 26, ""},
		{27, 3, 27, ""},
		{1000, 3, 1000, ""},
		{far - 1, 3, far - 1, ""},
		{far, 3, far, ""},
		{far + 1, 0, 10, "10:1.4=p 12:5.2=q 25:4.9=r"},
		{top, 0, 10, "10:1.4=p 12:5.2=q 25:4.9=r"},
	}
	for _, r := range rows {
		a := three(t)
		forgets(t, a, r.below, r.gone, r.first)
		stands(t, fmt.Sprintf("Forget(%d)", r.below), a, shown(b(5, 2), r.first, r.votes))
		forgets(t, a, r.below, 0, r.first)
	}
}

// The window goes on with the first slot: what was too far is not any more, what
// was not is old, and a vote that is gone does not come back.
func TestP10_3ForgetMovesOn(t *testing.T) {
	a := three(t)
	forgets(t, a, 13, 2, 13)
	for _, slot := range []int{10, 12} {
		want(t, "Accept of a forgotten slot", a.Accept(vote(slot, b(5, 2), "x")), api.ErrOld)
	}
	want(t, "Accept behind the window", a.Accept(vote(29, b(5, 2), "x")), api.ErrFar)
	takes(t, a, vote(28, b(5, 2), "s"), vote(13, b(5, 2), "t"))
	stands(t, "the window has gone on", a, "5.2 | 13 | 13:5.2=t 25:4.9=r 28:5.2=s")
	forgets(t, a, 28, 2, 28)
	forgets(t, a, 12, 0, 28)
	stands(t, "on once more", a, "5.2 | 28 | 28:5.2=s")
	forgets(t, a, far, 1, far)
	forgets(t, a, far+1, 0, far)
	takes(t, a, vote(far, b(5, 2), "u"), vote(far+15, b(5, 2), "v"))
	forgets(t, a, far+1, 0, far)
	stands(t, "at the end", a, fmt.Sprintf("5.2 | %d | %d:5.2=u %d:5.2=v", far, far, far+15))
}

// Window by window, as a member goes: each slot is voted for, and forgotten.
func TestP10_3LongWay(t *testing.T) {
	a := New()
	for slot := 1; slot <= 5000; slot++ {
		takes(t, a, vote(slot, b(1+slot/7, 1), "v"))
		if n := len(a.Votes()); n != min(slot, 3) {
			t.Fatalf("slot %d: %d votes", slot, n)
		}
		if slot > 2 {
			forgets(t, a, slot-1, 1, slot-1)
		}
	}
	stands(t, "the end of the way", a, "715.1 | 4999 | 4999:715.1=v 5000:715.1=v")
}
