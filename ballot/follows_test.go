package ballot

import (
	"math/rand"
	"slices"
	"testing"

	"purse/api"
)

// crowd is the nodes of a set of bits, each of them once or more, in any order,
// among names that are no nodes.
func crowd(r *rand.Rand, bits, nodes int) []int {
	l := []int{low, -1, 0, nodes + 1, top}[:r.Intn(6)]
	for node := 1; node <= nodes; node++ {
		if bits>>(node-1)&1 == 1 {
			l = append(l, slices.Repeat([]int{node}, 1+r.Intn(3))...)
		}
	}
	r.Shuffle(len(l), func(i, j int) { l[i], l[j] = l[j], l[i] })
	return l
}

// meet tells whether two lists name one of the nodes in common.
func meet(nodes int, x, y []int) bool {
	for node := 1; node <= nodes; node++ {
		if slices.Contains(x, node) && slices.Contains(y, node) {
			return true
		}
	}
	return false
}

// Any two lists that are Enough meet. And Enough is no more than that asks for:
// of a set and all others one is Enough, unless both are just a half.
func TestWhatFollowsEnoughMeet(t *testing.T) {
	r := rand.New(rand.NewSource(9))
	for nodes := 1; nodes <= api.MaxNodes; nodes++ {
		sets := 1 << nodes
		enough := 0
		for i := range sets {
			if Enough(nodes, crowd(r, i, nodes)...) {
				enough++
			}
			for j := range sets {
				x, y := crowd(r, i, nodes), crowd(r, j, nodes)
				if Enough(nodes, x...) && Enough(nodes, y...) && !meet(nodes, x, y) {
					t.Fatalf("of %d nodes %v and %v are Enough, and have none in common", nodes, x, y)
				}
			}
			others := crowd(r, sets-1-i, nodes)
			if n := Count(nodes, crowd(r, i, nodes)...); !Enough(nodes, crowd(r, i, nodes)...) && !Enough(nodes, others...) && 2*n != nodes {
				t.Fatalf("of %d nodes neither the set %b nor the others are Enough", nodes, i)
			}
		}
		if enough == 0 {
			t.Errorf("of %d nodes no list is Enough", nodes)
		}
	}
}

func TestWhatFollowsNextIsAbove(t *testing.T) {
	for _, seen := range ballots() {
		for node := 1; node <= api.MaxNodes; node++ {
			next, e := Next(seen, node)
			if e != api.OK {
				if seen.Round != top {
					t.Fatalf("Next(%v, %d): error %d", seen, node, e)
				}
				continue
			}
			if !below(seen, next) || !Less(seen, next) || Less(next, seen) || Most(seen, next) != next {
				t.Fatalf("Next(%v, %d): %v is not above", seen, node, next)
			}
			if !May(next, node) || !May(next, api.MaxNodes) || May(next, node-1) {
				t.Fatalf("Next(%v, %d): %v is not a ballot of that node", seen, node, next)
			}
		}
	}
}

// Two nodes never have one ballot, whatever each of them has seen.
func TestWhatFollowsNoTwoHaveOne(t *testing.T) {
	owner := map[api.Ballot]int{}
	for _, seen := range ballots() {
		for node := 1; node <= api.MaxNodes; node++ {
			next, e := Next(seen, node)
			if e != api.OK {
				continue
			}
			if was, is := owner[next]; is && was != node {
				t.Fatalf("%v is a ballot of %d and of %d", next, was, node)
			}
			owner[next] = node
		}
	}
}

// Nodes that draw by turns, each by what it has seen of the others' and its own,
// never draw a ballot twice.
func TestWhatFollowsDraws(t *testing.T) {
	for seed := range 50 {
		r := rand.New(rand.NewSource(int64(seed)))
		var seen [api.MaxNodes + 1]api.Ballot
		drawn := map[api.Ballot]int{}
		for range 300 {
			node := 1 + r.Intn(api.MaxNodes)
			other := 1 + r.Intn(api.MaxNodes)
			seen[node] = Most(seen[node], seen[other])
			next, e := Next(seen[node], node)
			if e != api.OK || !Less(seen[node], next) {
				t.Fatalf("run %d: Next(%v, %d): %v, error %d", seed, seen[node], node, next, e)
			}
			drawn[next]++
			if drawn[next] > 1 {
				t.Fatalf("run %d: %v was drawn twice", seed, next)
			}
			seen[node] = next
		}
	}
}
