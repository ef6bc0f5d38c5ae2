package ballot

import (
	"fmt"
	"math"
	"slices"
	"testing"

	"purse/api"
)

const (
	low = math.MinInt
	top = math.MaxInt
)

// edges are the numbers at which rounds, nodes and numbers of nodes turn.
var edges = []int{low, low + 1, -1000, -5, -2, -1, 0, 1, 2, 3, 4, 5, 6, 7, 9, 64, 65, 1000, 1 << 32, 1<<32 + 1, top - 2, top - 1, top}

func b(round, node int) api.Ballot { return api.Ballot{Round: round, Node: node} }

// ballots are all pairs of edges.
func ballots() []api.Ballot {
	var l []api.Ballot
	for _, round := range edges {
		for _, node := range edges {
			l = append(l, b(round, node))
		}
	}
	return l
}

// few are ballots that are alike in Round, in Node, in both and in neither, with
// the zero one and the ends among them.
var few = []api.Ballot{
	{Round: 0, Node: 0}, {Round: 0, Node: 1}, {Round: 1, Node: 1}, {Round: 1, Node: 2}, {Round: 2, Node: 1},
	{Round: -1, Node: 3}, {Round: low, Node: low}, {Round: low, Node: top}, {Round: top, Node: low}, {Round: top, Node: top},
}

// below is Less by the chapter's words, without Less.
func below(x, y api.Ballot) bool {
	return x.Round < y.Round || x.Round == y.Round && x.Node < y.Node
}

// lists calls do with each list of so many of the things, in one room that is
// written over from call to call.
func lists[T any](things []T, size int, do func(l []T)) {
	room := make([]T, size)
	var fill func(at int)
	fill = func(at int) {
		if at == size {
			do(room)
			return
		}
		for _, v := range things {
			room[at] = v
			fill(at + 1)
		}
	}
	fill(0)
}

func TestExamples(t *testing.T) {
	rows := []struct {
		seen api.Ballot
		node int
		want api.Ballot
	}{
		{b(3, 2), 1, b(4, 1)},
		{b(0, 0), 3, b(1, 3)},
		{b(-5, 0), 3, b(1, 3)},
	}
	for _, r := range rows {
		if got, e := Next(r.seen, r.node); got != r.want || e != api.OK {
			t.Errorf("Next(%v, %d): %v, error %d; want %v", r.seen, r.node, got, e, r.want)
		}
	}
	if n := Quorum(5); n != 3 {
		t.Errorf("Quorum(5): %d; want 3", n)
	}
	if n := Count(3, 1, 1, 2, 9); n != 2 {
		t.Errorf("Count(3, 1, 1, 2, 9): %d; want 2", n)
	}
	if Enough(3, 1, 1, 9) {
		t.Error("Enough(3, 1, 1, 9): true")
	}
}

func TestP9_1May(t *testing.T) {
	rows := []struct {
		b     api.Ballot
		nodes int
		want  bool
	}{
		{b(1, 1), 1, true},
		{b(1, 1), api.MaxNodes, true},
		{b(1, api.MaxNodes), api.MaxNodes, true},
		{b(top, 3), 3, true},
		{b(top-1, 2), 3, true},
		{b(1, 4), 3, false},
		{b(1, 2), 1, false},
		{b(1, 0), 3, false},
		{b(1, -1), 3, false},
		{b(1, low), 3, false},
		{b(1, top), 3, false},
		{b(0, 1), 3, false},
		{b(-1, 1), 3, false},
		{b(low, 1), 3, false},
		{b(0, 0), 3, false},
		{b(1, 1), 0, false},
		{b(1, 0), 0, false},
		{b(1, -1), -1, false},
		{b(1, 1), -1, false},
		{b(1, 1), low, false},
		{b(1, 1), api.MaxNodes + 1, false},
		{b(1, api.MaxNodes+1), api.MaxNodes + 1, false},
		{b(1, 1), top, false},
		{b(1, top), top, false},
	}
	for _, r := range rows {
		if got := May(r.b, r.nodes); got != r.want {
			t.Errorf("May(%v, %d): %v; want %v", r.b, r.nodes, got, r.want)
		}
	}
}

// May, of all edges, names just the nodes that are there.
func TestP9_1MayAtEdges(t *testing.T) {
	for _, nodes := range edges {
		var there []int
		if slices.Contains([]int{1, 2, 3, 4, 5}, nodes) {
			there = []int{1, 2, 3, 4, 5}[:nodes]
		}
		for _, x := range ballots() {
			if got, want := May(x, nodes), slices.Contains(there, x.Node) && x.Round > 0; got != want {
				t.Fatalf("May(%v, %d): %v; want %v", x, nodes, got, want)
			}
		}
	}
}

func TestP9_1Less(t *testing.T) {
	rows := []struct {
		a, b api.Ballot
		want bool
	}{
		{b(1, 3), b(2, 1), true},
		{b(2, 1), b(1, 3), false},
		{b(1, 1), b(1, 2), true},
		{b(1, 2), b(1, 1), false},
		{b(1, 2), b(2, 2), true},
		{b(2, 2), b(1, 2), false},
		{b(1, 1), b(1, 1), false},
		{b(0, 0), b(0, 0), false},
		{b(0, 0), b(0, 1), true},
		{b(0, 0), b(1, 0), true},
		{b(-1, 9), b(0, 0), true},
		{b(0, -1), b(0, 0), true},
		{b(low, 0), b(top, 0), true},
		{b(top, 0), b(low, 0), false},
		{b(7, low), b(7, top), true},
		{b(7, top), b(7, low), false},
		{b(top-1, top), b(top, low), true},
		{b(low, low), b(low, low), false},
		{b(top, top), b(top, top), false},
	}
	for _, r := range rows {
		if got := Less(r.a, r.b); got != r.want {
			t.Errorf("Less(%v, %v): %v; want %v", r.a, r.b, got, r.want)
		}
	}
}

// The edges rise, so all their pairs rise, too: Less of two is the order of
// their places.
func TestP9_1LessAtEdges(t *testing.T) {
	if !slices.IsSorted(edges) {
		t.Fatal("the edges don't rise")
	}
	all := ballots()
	for i, x := range all {
		for j, y := range all {
			if got := Less(x, y); got != (i < j) {
				t.Fatalf("Less(%v, %v): %v", x, y, got)
			}
		}
	}
}

func TestP9_1Most(t *testing.T) {
	rows := []struct {
		l    []api.Ballot
		want api.Ballot
	}{
		{nil, b(0, 0)},
		{[]api.Ballot{}, b(0, 0)},
		{[]api.Ballot{b(2, 3)}, b(2, 3)},
		{[]api.Ballot{b(0, 0)}, b(0, 0)},
		{[]api.Ballot{b(2, 3), b(2, 3), b(2, 3)}, b(2, 3)},
		{[]api.Ballot{b(1, 2), b(3, 1), b(2, 9)}, b(3, 1)},
		{[]api.Ballot{b(3, 1), b(1, 2), b(2, 9)}, b(3, 1)},
		{[]api.Ballot{b(1, 2), b(2, 9), b(3, 1)}, b(3, 1)},
		{[]api.Ballot{b(1, 2), b(1, 3), b(1, 1)}, b(1, 3)},
		// None of these is above the zero one, which is not among them.
		{[]api.Ballot{b(-5, 0)}, b(-5, 0)},
		{[]api.Ballot{b(-5, 4), b(-5, 7), b(-6, 9)}, b(-5, 7)},
		{[]api.Ballot{b(0, -1)}, b(0, -1)},
		{[]api.Ballot{b(low, low)}, b(low, low)},
		{[]api.Ballot{b(low, low), b(low, low+1)}, b(low, low+1)},
		{[]api.Ballot{b(top, low), b(top, top), b(low, top)}, b(top, top)},
	}
	for _, r := range rows {
		if got := Most(r.l...); got != r.want {
			t.Errorf("Most(%v): %v; want %v", r.l, got, r.want)
		}
	}
}

// Most, of each list of up to four, is one of them that none is above.
func TestP9_1MostOfAllLists(t *testing.T) {
	for size := 1; size <= 4; size++ {
		lists(few, size, func(l []api.Ballot) {
			most := Most(l...)
			if !slices.Contains(l, most) || slices.ContainsFunc(l, func(x api.Ballot) bool { return below(most, x) }) {
				t.Fatalf("Most(%v): %v", l, most)
			}
		})
	}
}

func TestP9_2Next(t *testing.T) {
	rows := []struct {
		seen api.Ballot
		node int
		want api.Ballot
		e    api.Errno
	}{
		{b(1, 1), 1, b(2, 1), api.OK},
		// {3, 2} would be above, but its Round is not.
		{b(3, 1), 2, b(4, 2), api.OK},
		{b(3, 5), 5, b(4, 5), api.OK},
		{b(3, 9), api.MaxNodes, b(4, api.MaxNodes), api.OK},
		{b(0, 4), 1, b(1, 1), api.OK},
		{b(0, low), 2, b(1, 2), api.OK},
		{b(0, top), 2, b(1, 2), api.OK},
		{b(-1, 3), 2, b(1, 2), api.OK},
		{b(-2, 3), 2, b(1, 2), api.OK},
		{b(low, low), 1, b(1, 1), api.OK},
		{b(low, top), 5, b(1, 5), api.OK},
		{b(top-2, 1), 4, b(top-1, 4), api.OK},
		{b(top-1, 1), 4, b(top, 4), api.OK},
		{b(top-1, top), 1, b(top, 1), api.OK},
		{b(top, 1), 4, b(0, 0), api.ErrOver},
		{b(top, 0), 1, b(0, 0), api.ErrOver},
		{b(top, low), api.MaxNodes, b(0, 0), api.ErrOver},
		{b(3, 2), 0, b(0, 0), api.ErrArg},
		{b(3, 2), -1, b(0, 0), api.ErrArg},
		{b(3, 2), api.MaxNodes + 1, b(0, 0), api.ErrArg},
		{b(3, 2), low, b(0, 0), api.ErrArg},
		{b(3, 2), top, b(0, 0), api.ErrArg},
		{b(0, 0), 0, b(0, 0), api.ErrArg},
		// Both: the first one counts.
		{b(top, 2), 0, b(0, 0), api.ErrArg},
		{b(top, 2), api.MaxNodes + 1, b(0, 0), api.ErrArg},
		{b(top, top), low, b(0, 0), api.ErrArg},
	}
	for _, r := range rows {
		if got, e := Next(r.seen, r.node); got != r.want || e != r.e {
			t.Errorf("Next(%v, %d): %v, error %d; want %v, error %d", r.seen, r.node, got, e, r.want, r.e)
		}
	}
}

// leastRound is the least Round from 1 on that is above an edge: it is among the
// edges and the numbers that follow them.
func leastRound(round int) int {
	least := top
	for _, edge := range edges {
		for _, n := range []int{edge, min(edge, top-1) + 1} {
			if n >= 1 && n > round {
				least = min(least, n)
			}
		}
	}
	return least
}

func TestP9_2NextAtEdges(t *testing.T) {
	for _, seen := range ballots() {
		for _, node := range edges {
			want, wantE := b(leastRound(seen.Round), node), api.OK
			switch {
			case node < 1 || node > 5:
				want, wantE = b(0, 0), api.ErrArg
			case seen.Round == top:
				want, wantE = b(0, 0), api.ErrOver
			}
			if got, e := Next(seen, node); got != want || e != wantE {
				t.Fatalf("Next(%v, %d): %v, error %d; want %v, error %d", seen, node, got, e, want, wantE)
			}
		}
	}
}

// quorums are how many are more than half, of each number of nodes.
var quorums = []int{0, 1, 2, 2, 3, 3}

func TestP9_3Quorum(t *testing.T) {
	if api.MaxNodes != len(quorums)-1 {
		t.Fatal("the quorums don't go up to MaxNodes")
	}
	for nodes, want := range quorums {
		if got := Quorum(nodes); got != want {
			t.Errorf("Quorum(%d): %d; want %d", nodes, got, want)
		}
	}
	for _, nodes := range []int{low, low + 1, -7, -2, -1, 0, api.MaxNodes + 1, api.MaxNodes + 2, 100, top - 1, top} {
		if got := Quorum(nodes); got != 0 {
			t.Errorf("Quorum(%d): %d; want 0", nodes, got)
		}
	}
}

func TestP9_3CountAndEnough(t *testing.T) {
	rows := []struct {
		nodes  int
		l      []int
		count  int
		enough bool
	}{
		{1, nil, 0, false},
		{3, nil, 0, false},
		{5, []int{}, 0, false},
		{1, []int{1}, 1, true},
		{1, []int{1, 1}, 1, true},
		{1, []int{2}, 0, false},
		{2, []int{1}, 1, false},
		{2, []int{1, 1}, 1, false},
		{2, []int{2, 1}, 2, true},
		{3, []int{3, 1}, 2, true},
		{3, []int{3, 3, 3, 3}, 1, false},
		{3, []int{1, 4}, 1, false},
		{3, []int{1, 4, 2}, 2, true},
		{3, []int{3, 2, 1, 3, 2, 1}, 3, true},
		{4, []int{4, 2}, 2, false},
		{4, []int{4, 2, 4, 2}, 2, false},
		{4, []int{4, 2, 1}, 3, true},
		{5, []int{5, 1}, 2, false},
		{5, []int{5, 5, 1, 1}, 2, false},
		{5, []int{5, 3, 1}, 3, true},
		{5, []int{1, 2, 3, 4, 5}, 5, true},
		{5, []int{6, 7, 8}, 0, false},
		{5, []int{0, -1, low, top, 6}, 0, false},
		{5, []int{0, 1, low, 2, top, 3, 6}, 3, true},
		// Numbers that would name a node, if they were cut short or went round.
		{5, []int{1 + 1<<32, 2 + 1<<32, 3 - 1<<32, 257, 65, -1, -2, -3}, 0, false},
		{0, nil, 0, false},
		{0, []int{0}, 0, false},
		{0, []int{1, 2, 3}, 0, false},
		{-1, nil, 0, false},
		{-1, []int{-1, 1}, 0, false},
		{low, []int{1, low}, 0, false},
		{6, nil, 0, false},
		{6, []int{1, 2, 3, 4, 5, 6}, 0, false},
		{9, []int{1, 2, 3, 4, 5}, 0, false},
		{top, []int{1, 2, 3, 4, 5, top}, 0, false},
	}
	for _, r := range rows {
		if got := Count(r.nodes, r.l...); got != r.count {
			t.Errorf("Count(%d, %v): %d; want %d", r.nodes, r.l, got, r.count)
		}
		if got := Enough(r.nodes, r.l...); got != r.enough {
			t.Errorf("Enough(%d, %v): %v; want %v", r.nodes, r.l, got, r.enough)
		}
	}
}

// named is how many of the nodes 1 to nodes l names, by the chapter's words.
func named(nodes int, l []int) int {
	n := 0
	for node := 1; node <= nodes; node++ {
		if slices.Contains(l, node) {
			n++
		}
	}
	return n
}

// Count and Enough of each list of up to five names, nodes and others.
func TestP9_3CountAndEnoughOfAllLists(t *testing.T) {
	names := []int{low, -1, 0, 1, 2, 3, 4, 5, 6, top}
	for size := range 6 {
		lists(names, size, func(l []int) {
			for nodes := range quorums {
				n := named(nodes, l)
				if got := Count(nodes, l...); got != n {
					t.Fatalf("Count(%d, %v): %d; want %d", nodes, l, got, n)
				}
				if got, want := Enough(nodes, l...), nodes > 0 && 2*n > nodes; got != want {
					t.Fatalf("Enough(%d, %v): %v; want %v", nodes, l, got, want)
				}
			}
		})
	}
}

// A list may be long, and a node's name stand at its end.
func TestP9_3LongLists(t *testing.T) {
	l := make([]int, 1<<20)
	for i := range l {
		l[i] = []int{1, 0, 6, i + 6}[i%4]
	}
	if Count(5, l...) != 1 || Enough(5, l...) {
		t.Errorf("of many names: %d, %v; want 1", Count(5, l...), Enough(5, l...))
	}
	l = append(l, 5, 3)
	if Count(5, l...) != 3 || !Enough(5, l...) {
		t.Errorf("of many names: %d, %v; want 3", Count(5, l...), Enough(5, l...))
	}
}

// R3: lists that are handed in stay as they are, with the room behind their ends.
func TestHandedInStays(t *testing.T) {
	names := []int{9, 1, 1, 2, 0, 3, 5, 4}
	seen := []api.Ballot{b(2, 2), b(1, 1), b(3, 1), b(3, 1), b(9, 9), b(0, 0)}
	oldNames, oldSeen := slices.Clone(names), slices.Clone(seen)
	for range 2 {
		if Count(3, names[:4]...) != 2 || !Enough(3, names[:4]...) || Most(seen[:4]...) != b(3, 1) {
			t.Error("another answer of the same list")
		}
		if !slices.Equal(names, oldNames) || !slices.Equal(seen, oldSeen) {
			t.Errorf("what was handed in is %v, %v", names, seen)
		}
	}
	copied := Most(seen[:4]...)
	seen[2].Round = 0
	if copied != b(3, 1) {
		t.Errorf("what was handed out is %v behind a change of the list", copied)
	}
}

// R2: what was asked earlier, and by whom, is not to be seen in an answer.
func TestSameCallsAnswerTheSame(t *testing.T) {
	all := func() string {
		s := ""
		for _, n := range edges {
			next, e := Next(b(n, 1), 2)
			s += fmt.Sprintln(May(b(n, 2), 3), May(b(1, 1), n), Less(b(n, 1), b(5, 1)), Most(b(n, 1), b(5, 1)), next, e,
				Quorum(n), Count(n, 1, 2, 2), Enough(n, 1, 2, 2), Count(5, n), Enough(1, n))
		}
		return s
	}
	want, got := all(), make(chan string)
	for range 8 {
		go func() { got <- all() }()
	}
	for range 8 {
		if s := <-got; s != want {
			t.Errorf("one of many: %q; want %q", s, want)
		}
	}
}
