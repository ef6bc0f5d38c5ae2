package accept

import (
	"fmt"
	"slices"
	"testing"

	"purse/api"
)

func TestP10_4First(t *testing.T) {
	for _, first := range []int{1, 2, 16, 17, 1 << 32, far - 1, far} {
		a := loads(t, b(1, 1), first, vote(first, b(1, 1), "a"), vote(first+15, b(1, 1), "z"))
		stands(t, "loaded", a, fmt.Sprintf("1.1 | %d | %d:1.1=a %d:1.1=z", first, first, first+15))
		stands(t, "without votes", loads(t, api.Ballot{}, first), fmt.Sprintf("0.0 | %d | ", first))
	}
	for _, first := range []int{low, low + 1, -far, -1, 0, far + 1, far + 2, top - 16, top - 15, top - 1, top} {
		refused(t, fmt.Sprint("first ", first), b(1, 1), first)
		refused(t, fmt.Sprint("first ", first, " and its vote"), b(1, 1), first, vote(first, b(1, 1), "a"))
		refused(t, fmt.Sprint("first ", first, " and a vote"), b(1, 1), first, vote(1, b(1, 1), "a"))
	}
}

func TestP10_4Promised(t *testing.T) {
	for _, p := range []api.Ballot{{}, b(1, 1), b(1, top), b(top, 1), b(top, top), b(3, 6)} {
		stands(t, "loaded", loads(t, p, 4), shown(p, 4, ""))
		a, e := Load(p, 4, []api.Vote{})
		want(t, "Load of an empty list", e, api.OK)
		stands(t, "of an empty list", a, shown(p, 4, ""))
	}
	for _, p := range []api.Ballot{
		b(0, 1), b(1, 0), b(0, -1), b(-1, 0), b(-1, -1), b(-1, 1), b(1, -1), b(0, top), b(top, 0),
		b(low, 0), b(0, low), b(low, low), b(low, top), b(top, low), b(low, 1), b(1, low),
	} {
		refused(t, fmt.Sprint("promised ", p), p, 4)
		refused(t, fmt.Sprint("promised ", p, " and a vote"), p, 4, vote(4, b(1, 1), "a"))
	}
}

func TestP10_4Slots(t *testing.T) {
	p := b(3, 2)
	good := [][]int{{}, {4}, {19}, {4, 5}, {4, 19}, {5, 7, 18, 19}, {18, 19}, {4, 5, 6, 7, 8, 9, 10, 11, 12, 13, 14, 15, 16, 17, 18, 19}}
	bad := [][]int{
		{low}, {-1}, {0}, {1}, {3}, {20}, {21}, {far}, {top}, // outside
		{3, 4}, {4, 20}, {4, top}, {4, low}, {low, 4}, {top, 4}, // one of two is
		{4, 4}, {19, 19}, {4, 7, 7}, {4, 4, 7}, // one twice
		{5, 4}, {19, 4}, {4, 8, 7}, {8, 4, 9}, {4, 6, 5, 7}, {4, 5, 4}, // they fall
		{4, 5, 6, 7, 8, 9, 10, 11, 12, 13, 14, 15, 16, 17, 18, 19, 20},
		{4, 5, 6, 7, 8, 9, 10, 11, 12, 13, 14, 15, 16, 17, 18, 19, 19},
	}
	list := func(slots []int) (l []api.Vote) {
		for _, slot := range slots {
			l = append(l, vote(slot, b(1, 1), fmt.Sprint(slot)))
		}
		return l
	}
	for _, slots := range good {
		stands(t, fmt.Sprint("the slots ", slots), loads(t, p, 4, list(slots)...), shown(p, 4, text(list(slots))))
	}
	for _, slots := range bad {
		refused(t, fmt.Sprint("the slots ", slots), p, 4, list(slots)...)
	}
	refused(t, "a very long list", p, 4, slices.Repeat(list([]int{4, 5}), 1<<16)...)
}

func TestP10_4Ballots(t *testing.T) {
	p := b(5, 2)
	for ballot, e := range turns() {
		v := vote(6, ballot, "x")
		others := []api.Vote{vote(4, b(1, 1), "a"), v, vote(9, b(5, 2), "c")}
		if e == api.ErrBallot || ballot == p { // below what is promised, or the same
			stands(t, fmt.Sprint("a vote of ", ballot), loads(t, p, 4, v), shown(p, 4, text([]api.Vote{v})))
			stands(t, fmt.Sprint("a vote of ", ballot, " among others"), loads(t, p, 4, others...), shown(p, 4, text(others)))
			continue
		}
		refused(t, fmt.Sprint("a vote of ", ballot), p, 4, v)
		refused(t, fmt.Sprint("a vote of ", ballot, " among others"), p, 4, others...)
		refused(t, fmt.Sprint("a vote of ", ballot, " behind another"), p, 4, others[:2]...)
	}
	for _, ballot := range []api.Ballot{{}, b(1, 1), b(-1, -1), b(top, top)} {
		refused(t, fmt.Sprint("a vote of ", ballot, ", and nothing is promised"), api.Ballot{}, 4, vote(4, ballot, "x"))
	}
}

func TestP10_4Values(t *testing.T) {
	for _, size := range []int{0, 1, api.MaxValue - 1, api.MaxValue} {
		a := loads(t, b(1, 1), 1, vote(1, b(1, 1), long(size)))
		stands(t, fmt.Sprint("a value of ", size), a, "1.1 | 1 | 1:1.1="+long(size))
	}
	for _, size := range []int{api.MaxValue + 1, 1 << 20} {
		refused(t, fmt.Sprint("a value of ", size), b(1, 1), 1, vote(1, b(1, 1), long(size)))
		refused(t, fmt.Sprint("a value of ", size, " as the last"), b(1, 1), 1, vote(1, b(1, 1), "x"), vote(2, b(1, 1), long(size)))
	}
	stands(t, "a nil value", loads(t, b(1, 1), 1, api.Vote{Slot: 1, Ballot: b(1, 1)}), "1.1 | 1 | 1:1.1=")
}

// Zero values of api's types are refused, or make an acceptor without votes.
func TestR1Zeros(t *testing.T) {
	refused(t, "all zero", api.Ballot{}, 0)
	refused(t, "a zero vote", b(1, 1), 1, api.Vote{})
	refused(t, "zero votes", b(1, 1), 1, make([]api.Vote, 3)...)
	a := three(t)
	want(t, "Accept of a zero vote", a.Accept(api.Vote{}), api.ErrArg)
	_, e := a.Prepare(api.Ballot{}, 0)
	want(t, "Prepare by a zero ballot", e, api.ErrArg)
	stands(t, "zeros", a, threeLine)
}

// One that was loaded goes on as the one that it was read off.
func TestP10_4GoesOn(t *testing.T) {
	a := three(t)
	want(t, "Accept by a lower ballot", a.Accept(vote(11, b(5, 1), "x")), api.ErrBallot)
	want(t, "Accept below first", a.Accept(vote(9, b(5, 2), "x")), api.ErrOld)
	want(t, "Accept behind the window", a.Accept(vote(26, b(5, 2), "x")), api.ErrFar)
	stands(t, "what was refused", a, threeLine)
	takes(t, a, vote(10, b(6, 1), "new"), vote(11, b(6, 1), "more"))
	l, e := a.Prepare(b(6, 1), 11)
	want(t, "Prepare", e, api.OK)
	if s := text(l); s != "11:6.1=more 12:5.2=q 25:4.9=r" {
		t.Errorf("Prepare: %q", s)
	}
	forgets(t, a, 12, 2, 12)
	stands(t, "gone on", a, "6.1 | 12 | 12:5.2=q 25:4.9=r")
}
