package accept

import (
	"fmt"
	"math"
	"slices"
	"strings"
	"testing"

	"purse/api"
)

const (
	low = math.MinInt
	top = math.MaxInt
	// far is the greatest slot that may be First.
	far = 1 << 40
)

func b(round, node int) api.Ballot { return api.Ballot{Round: round, Node: node} }

func vote(slot int, ballot api.Ballot, value string) api.Vote {
	return api.Vote{Slot: slot, Ballot: ballot, Value: []byte(value)}
}

// long is a value of so many bytes.
func long(size int) string { return strings.Repeat("v", size) }

// want fails, if a call has answered another error.
func want(t testing.TB, what string, got, e api.Errno) {
	t.Helper()
	if got != e {
		t.Errorf("%s: error %d; want %d", what, got, e)
	}
}

// text is a line of a list of votes.
func text(votes []api.Vote) string {
	var l []string
	for _, v := range votes {
		l = append(l, fmt.Sprintf("%d:%d.%d=%s", v.Slot, v.Ballot.Round, v.Ballot.Node, v.Value))
	}
	return strings.Join(l, " ")
}

// shown is one line of all that an acceptor tells.
func shown(promised api.Ballot, first int, votes string) string {
	return fmt.Sprintf("%d.%d | %d | %s", promised.Round, promised.Node, first, votes)
}

func told(a *Acceptor) string { return shown(a.Promised(), a.First(), text(a.Votes())) }

// stands fails, if an acceptor tells something else: Promised | First | Votes.
func stands(t testing.TB, what string, a *Acceptor, line string) {
	t.Helper()
	if s := told(a); s != line {
		t.Errorf("%s: %.300q; want %.300q", what, s, line)
	}
}

// takes lets an acceptor accept votes, each of which is to be taken.
func takes(t testing.TB, a *Acceptor, votes ...api.Vote) {
	t.Helper()
	for _, v := range votes {
		want(t, fmt.Sprintf("Accept of %.60q", text([]api.Vote{v})), a.Accept(v), api.OK)
	}
}

// loads is the acceptor of what is to be loaded.
func loads(t testing.TB, promised api.Ballot, first int, votes ...api.Vote) *Acceptor {
	t.Helper()
	a, e := Load(promised, first, votes)
	if a == nil || e != api.OK {
		t.Fatalf("Load(%v, %d, %.200q): error %d", promised, first, text(votes), e)
	}
	return a
}

// refused fails, if Load takes it.
func refused(t testing.TB, what string, promised api.Ballot, first int, votes ...api.Vote) {
	t.Helper()
	if a, e := Load(promised, first, votes); a != nil || e != api.ErrForm {
		t.Errorf("Load, %s: %v, error %d; want 21", what, a, e)
	}
}

// forgets fails, if Forget tells otherwise, or First is another one behind it.
func forgets(t testing.TB, a *Acceptor, below, gone, first int) {
	t.Helper()
	if n := a.Forget(below); n != gone || a.First() != first {
		t.Errorf("Forget(%d): %d, First %d; want %d, First %d", below, n, a.First(), gone, first)
	}
}

// plain is an acceptor as the chapter's words have it: its votes in the order in
// which they came, in which each thing is searched for from its beginning on.
type plain struct {
	promised api.Ballot
	first    int
	votes    []api.Vote
}

func newPlain() *plain { return &plain{first: 1} }

// below is the order of ballots by the words of chapter 9.
func below(x, y api.Ballot) bool {
	return x.Round < y.Round || x.Round == y.Round && x.Node < y.Node
}

func (p *plain) sorted() []api.Vote {
	l := slices.Clone(p.votes)
	slices.SortFunc(l, func(x, y api.Vote) int { return x.Slot - y.Slot })
	return l
}

func (p *plain) prepare(b api.Ballot, from int) (string, api.Errno) {
	if b.Round < 1 || b.Node < 1 {
		return "", 1
	}
	if below(b, p.promised) {
		return "", 90
	}
	p.promised = b
	return text(slices.DeleteFunc(p.sorted(), func(v api.Vote) bool { return v.Slot < from })), 0
}

func (p *plain) accept(v api.Vote) api.Errno {
	if v.Ballot.Round < 1 || v.Ballot.Node < 1 || len(v.Value) > 2048 {
		return 1
	}
	if below(v.Ballot, p.promised) {
		return 90
	}
	if v.Slot < p.first {
		return 80
	}
	if v.Slot >= p.first+16 {
		return 81
	}
	p.promised = v.Ballot
	p.votes = slices.DeleteFunc(p.votes, func(w api.Vote) bool { return w.Slot == v.Slot })
	p.votes = append(p.votes, v)
	return 0
}

func (p *plain) forget(below int) int {
	if below <= p.first || below > far {
		return 0
	}
	had := len(p.votes)
	p.votes = slices.DeleteFunc(p.votes, func(v api.Vote) bool { return v.Slot < below })
	p.first = below
	return had - len(p.votes)
}

func (p *plain) fork() *plain {
	return &plain{promised: p.promised, first: p.first, votes: slices.Clone(p.votes)}
}

func (p *plain) told() string { return shown(p.promised, p.first, text(p.sorted())) }
