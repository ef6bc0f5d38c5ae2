package choose

import (
	"fmt"
	"math"
	"slices"
	"strings"
	"testing"

	"purse/api"
)

const (
	low = math.MinInt
	top = math.MaxInt
	// far is the greatest slot for which there may be a vote.
	far = 1 << 40
)

func b(round, node int) api.Ballot { return api.Ballot{Round: round, Node: node} }

func vote(slot int, ballot api.Ballot, value string) api.Vote {
	return api.Vote{Slot: slot, Ballot: ballot, Value: []byte(value)}
}

// by is the promise of a node.
func by(node int, votes ...api.Vote) api.Promise {
	return api.Promise{Node: node, Votes: votes}
}

// all is a list of promises.
func all(l ...api.Promise) []api.Promise { return l }

// rows is votes of one ballot for each slot from first on, so many of them.
func rows(first, count int, ballot api.Ballot) []api.Vote {
	var l []api.Vote
	for slot := first; slot < first+count; slot++ {
		l = append(l, vote(slot, ballot, fmt.Sprint("v", slot)))
	}
	return l
}

// text is a line of entries.
func text(entries []api.Entry) string {
	var l []string
	for _, e := range entries {
		l = append(l, fmt.Sprintf("%d=%s", e.Slot, e.Value))
	}
	return strings.Join(l, " ")
}

// line is promises as one line.
func line(l []api.Promise) string {
	out := ""
	for _, p := range l {
		out += fmt.Sprintf("[%d:", p.Node)
		for _, v := range p.Votes {
			out += fmt.Sprintf(" %d:%d.%d=%s", v.Slot, v.Ballot.Round, v.Ballot.Node, v.Value)
		}
		out += "]"
	}
	return out
}

// opens fails, if Open does not answer these entries.
func opens(t testing.TB, what string, nodes, from int, l []api.Promise, entries string) {
	t.Helper()
	got, e := Open(nodes, from, l)
	if e != api.OK || text(got) != entries {
		t.Errorf("%s: Open(%d, %d, %.200s): %.300q, error %d; want %.300q", what, nodes, from, line(l), text(got), e, entries)
	}
}

// refuses fails, if Open does not answer this error, and nothing beside it.
func refuses(t testing.TB, what string, nodes, from int, l []api.Promise, e api.Errno) {
	t.Helper()
	if got, err := Open(nodes, from, l); err != e || got != nil {
		t.Errorf("%s: Open(%d, %d, %.200s): %.300q, error %d; want error %d", what, nodes, from, line(l), text(got), err, e)
	}
}

// chooses fails, if Chosen does not tell these entries.
func chooses(t testing.TB, what string, nodes int, l []api.Promise, entries string) {
	t.Helper()
	if got := Chosen(nodes, l); text(got) != entries {
		t.Errorf("%s: Chosen(%d, %.200s): %.300q; want %.300q", what, nodes, line(l), text(got), entries)
	}
}

// right fails, if Right tells otherwise; of what is not right Open is ErrForm,
// whatever from is, and Chosen tells nothing.
func right(t testing.TB, what string, nodes int, l []api.Promise, is bool) {
	t.Helper()
	if got := Right(nodes, l); got != is {
		t.Errorf("%s: Right(%d, %.200s): %v; want %v", what, nodes, line(l), got, is)
	}
	if is {
		if _, e := Open(nodes, 1, l); e == api.ErrForm {
			t.Errorf("%s: Open(%d, 1, %.200s): error %d", what, nodes, line(l), e)
		}
		return
	}
	for _, from := range []int{low, 0, 1, far, far + 1, top} {
		refuses(t, what, nodes, from, l, api.ErrForm)
	}
	if got := Chosen(nodes, l); got != nil {
		t.Errorf("%s: Chosen(%d, %.200s): %q; want none", what, nodes, line(l), text(got))
	}
}

// below is the order of ballots by the words of chapter 9.
func below(x, y api.Ballot) bool {
	return x.Round < y.Round || x.Round == y.Round && x.Node < y.Node
}

// plainRight is what the chapter's words say, each pair held against each other.
func plainRight(nodes int, l []api.Promise) bool {
	if nodes < 1 || nodes > 5 {
		return false
	}
	for i, p := range l {
		if p.Node < 1 || p.Node > nodes || len(p.Votes) > 16 {
			return false
		}
		for _, q := range l[:i] {
			if q.Node == p.Node {
				return false
			}
		}
		for j, v := range p.Votes {
			if v.Slot < 1 || v.Slot > far || v.Ballot.Round < 1 || v.Ballot.Node < 1 || v.Ballot.Node > nodes {
				return false
			}
			for _, w := range p.Votes[:j] {
				if w.Slot >= v.Slot {
					return false
				}
			}
		}
	}
	return true
}

// majority is more than half of so many nodes.
func majority(nodes int) int { return []int{0, 1, 2, 2, 3, 3}[nodes] }

// find is the node's vote for the slot.
func find(l []api.Promise, node, slot int) (api.Vote, bool) {
	for _, p := range l {
		for _, v := range p.Votes {
			if p.Node == node && v.Slot == slot {
				return v, true
			}
		}
	}
	return api.Vote{}, false
}

// plainOpen asks node by node, slot by slot.
func plainOpen(nodes, from int, l []api.Promise) (string, api.Errno) {
	if !plainRight(nodes, l) {
		return "", 21
	}
	if from < 1 || from > far {
		return "", 1
	}
	if len(l) < majority(nodes) {
		return "", 91
	}
	most := from - 1
	for _, p := range l {
		for _, v := range p.Votes {
			if v.Slot-1024 >= from {
				return "", 81
			}
			most = max(most, v.Slot)
		}
	}
	var out []string
	for slot := from; slot <= most; slot++ {
		var best api.Vote
		for node := nodes; node >= 1; node-- {
			if v, is := find(l, node, slot); is && !below(v.Ballot, best.Ballot) {
				best = v
			}
		}
		out = append(out, fmt.Sprintf("%d=%s", slot, best.Value))
	}
	return strings.Join(out, " "), 0
}

// plainChosen counts, for each slot and each vote for it, the nodes with one like
// it.
func plainChosen(nodes int, l []api.Promise) string {
	if !plainRight(nodes, l) {
		return ""
	}
	chosen := map[int]string{}
	for _, p := range l {
		for _, v := range p.Votes {
			count := 0
			for node := 1; node <= nodes; node++ {
				if w, is := find(l, node, v.Slot); is && w.Ballot == v.Ballot && string(w.Value) == string(v.Value) {
					count++
				}
			}
			if count >= majority(nodes) {
				chosen[v.Slot] = fmt.Sprintf("%d=%s", v.Slot, v.Value)
			}
		}
	}
	var slots []int
	for slot := range chosen {
		slots = append(slots, slot)
	}
	slices.Sort(slots)
	var out []string
	for _, slot := range slots {
		out = append(out, chosen[slot])
	}
	return strings.Join(out, " ")
}

// shuffles is each order of the promises.
func shuffles(l []api.Promise) [][]api.Promise {
	if len(l) == 0 {
		return [][]api.Promise{{}}
	}
	var out [][]api.Promise
	for i := range l {
		rest := slices.Concat(l[:i], l[i+1:])
		for _, way := range shuffles(rest) {
			out = append(out, append([]api.Promise{l[i]}, way...))
		}
	}
	return out
}
