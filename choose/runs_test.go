package choose

import (
	"fmt"
	"math/rand"
	"testing"

	"purse/api"
)

// answers is all that the calls tell of one input.
func answers(nodes, from int, l []api.Promise) string {
	open, e := Open(nodes, from, l)
	if e != api.OK && open != nil {
		return "entries beside an error"
	}
	return fmt.Sprint(Right(nodes, l), " ", e, " ", text(open), " | ", text(Chosen(nodes, l)))
}

func plainAnswers(nodes, from int, l []api.Promise) string {
	open, e := plainOpen(nodes, from, l)
	return fmt.Sprint(plainRight(nodes, l), " ", e, " ", open, " | ", plainChosen(nodes, l))
}

// Each way in which up to three nodes may have votes for one slot, by three
// ballots and two values, in each order of their promises.
func TestP11EachOfFew(t *testing.T) {
	single := [][]api.Vote{nil}
	for _, ballot := range []api.Ballot{b(1, 1), b(1, 2), b(2, 1)} {
		for _, value := range []string{"x", "y"} {
			single = append(single, []api.Vote{vote(2, ballot, value)})
		}
	}
	tried := 0
	for _, nodes := range []int{2, 3, 4} {
		for _, first := range single {
			for _, second := range single {
				for _, third := range single {
					l := all(by(1, first...), by(nodes, second...), by(2, third...))
					for _, way := range shuffles(l[:min(nodes, 3)]) {
						if got, want := answers(nodes, 1, way), plainAnswers(nodes, 1, way); got != want {
							t.Fatalf("of %d nodes, %s: %s; want %s", nodes, line(way), got, want)
						}
						tried++
					}
				}
			}
		}
	}
	if tried != 7*7*7*(2+6+6) {
		t.Errorf("%d were tried", tried)
	}
}

// someVotes is a node's votes, of few slots, ballots and values, so that those of
// several nodes are often alike.
func someVotes(r *rand.Rand, nodes, from int) []api.Vote {
	var votes []api.Vote
	slot := max(from-2, 1) + r.Intn(3)
	for range r.Intn(api.MaxVotes + 1) {
		votes = append(votes, vote(slot, b(1+r.Intn(2), 1+r.Intn(min(nodes, 2))), string(rune('x'+r.Intn(2)))))
		slot += 1 + r.Intn(3)*r.Intn(2)
	}
	return votes
}

// someBreak lets one thing of promises be another than may be, or at its edge.
func someBreak(r *rand.Rand, nodes int, l []api.Promise) {
	if len(l) == 0 {
		return
	}
	p := &l[r.Intn(len(l))]
	ends := []int{low, -1, 0, 1, nodes, nodes + 1, far - 1, far, far + 1, top}
	end := ends[r.Intn(len(ends))]
	if len(p.Votes) == 0 || r.Intn(5) == 0 {
		p.Node = end
		return
	}
	v := &p.Votes[r.Intn(len(p.Votes))]
	switch r.Intn(5) {
	case 0:
		v.Slot = end
	case 1:
		v.Ballot.Round = end
	case 2:
		v.Ballot.Node = end
	case 3:
		v.Slot = p.Votes[r.Intn(len(p.Votes))].Slot
	case 4:
		p.Votes = append(p.Votes, rows(p.Votes[len(p.Votes)-1].Slot+1, api.MaxVotes+r.Intn(2)-len(p.Votes), b(1, 1))...)
	}
}

func someInput(r *rand.Rand) (nodes, from int, l []api.Promise) {
	nodes = 1 + r.Intn(api.MaxNodes)
	from = []int{1, 2, 1000, 1 << 33, far - 1023, far - 3, far}[r.Intn(7)]
	for _, node := range r.Perm(nodes)[:r.Intn(nodes+1)] {
		votes := someVotes(r, nodes, from)
		if r.Intn(30) == 0 && len(votes) < api.MaxVotes {
			votes = append(votes, vote(from+api.MaxWindow-1+r.Intn(2), b(1, 1), "far"))
		}
		l = append(l, by(node+1, votes...))
	}
	switch r.Intn(12) {
	case 0:
		someBreak(r, nodes, l)
	case 1:
		nodes = []int{low, -1, 0, 1, 2, api.MaxNodes, api.MaxNodes + 1, top}[r.Intn(8)]
	case 2:
		from = []int{low, -1, 0, 1, far, far + 1, top}[r.Intn(7)]
	case 3:
		if len(l) > 0 {
			l = append(l, l[r.Intn(len(l))])
		}
	}
	return nodes, from, l
}

func TestP11RunsAgainstPlainWords(t *testing.T) {
	seen := map[string]int{}
	for seed := range 20000 {
		r := rand.New(rand.NewSource(int64(seed)))
		nodes, from, l := someInput(r)
		was := line(l)
		got, want := answers(nodes, from, l), plainAnswers(nodes, from, l)
		if got != want {
			t.Fatalf("run %d, nodes %d, from %d, %s: %.500s; want %.500s", seed, nodes, from, was, got, want)
		}
		if line(l) != was || answers(nodes, from, l) != got {
			t.Fatalf("run %d: asked twice, %s is %s", seed, was, line(l))
		}
		r.Shuffle(len(l), func(i, j int) { l[i], l[j] = l[j], l[i] })
		if again := answers(nodes, from, l); again != got {
			t.Fatalf("run %d, nodes %d, from %d, %s: %.500s in another order; want %.500s", seed, nodes, from, line(l), again, got)
		}
		_, e := Open(nodes, from, l)
		seen[fmt.Sprint("error ", e)]++
		seen[fmt.Sprint("chosen ", min(len(Chosen(nodes, l)), 3))]++
	}
	for _, what := range []string{"error 0", "error 1", "error 21", "error 81", "error 91", "chosen 0", "chosen 1", "chosen 2", "chosen 3"} {
		if seen[what] < 100 {
			t.Errorf("just %d times %q: the runs don't go along the edges: %v", seen[what], what, seen)
		}
	}
}

// What is chosen by all promises is what Open tells a leader, whatever majority
// of them it has, if votes behind it were cast as the chapter says.
func TestP11OpenKeepsWhatIsChosen(t *testing.T) {
	for nodes := 1; nodes <= api.MaxNodes; nodes++ {
		for set := range 1 << nodes {
			for asked := range 1 << nodes {
				var l, heard []api.Promise
				for node := 1; node <= nodes; node++ {
					v := vote(3, b(1, 1), "old")
					if set>>(node-1)&1 == 1 {
						v = vote(3, b(2, 1), "new")
					}
					l = append(l, by(node, v))
					if asked>>(node-1)&1 == 1 {
						heard = append(heard, by(node, v))
					}
				}
				open, e := Open(nodes, 3, heard)
				if e != api.OK || text(Chosen(nodes, l)) != "3=new" {
					continue
				}
				if text(open) != "3=new" {
					t.Errorf("of %d nodes %s is chosen, and by %s Open tells %q", nodes, line(l), line(heard), text(open))
				}
			}
		}
	}
}

// R1: zero values and lists of them, of any length.
func TestR1Zeros(t *testing.T) {
	for _, n := range []int{low, -1, 0, 1, 3, 5, 6, top} {
		for _, from := range []int{low, 0, 1, far, top} {
			for _, l := range [][]api.Promise{nil, {}, make([]api.Promise, 1), make([]api.Promise, 100000), {{Node: n}}, {{Node: 1, Votes: make([]api.Vote, 100000)}}} {
				if got, want := answers(n, from, l), plainAnswers(n, from, l); got != want {
					t.Errorf("nodes %d, from %d, %d promises: %s; want %s", n, from, len(l), got, want)
				}
			}
		}
	}
}
