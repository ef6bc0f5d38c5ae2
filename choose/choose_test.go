package choose

import (
	"fmt"
	"strings"
	"testing"

	"purse/api"
)

func TestExamples(t *testing.T) {
	one := by(1, vote(2, b(1, 1), "x"))
	three := by(3, vote(2, b(2, 3), "y"), vote(4, b(2, 3), "z"))
	two := by(2, vote(4, b(2, 3), "z"))
	opens(t, "example 1", 3, 1, all(one, three), "1= 2=y 3= 4=z")
	refuses(t, "of one promise", 3, 1, all(one), api.ErrFew)
	refuses(t, "of the other one", 3, 1, all(three), api.ErrFew)
	chooses(t, "example 1", 3, all(one, three), "")
	for _, l := range shuffles(all(one, three, two)) {
		chooses(t, "with a promise of 2", 3, l, "4=z")
		opens(t, "of all three", 3, 1, l, "1= 2=y 3= 4=z")
	}
}

// each is a promise without votes of each of the nodes 1 to count.
func each(count int) []api.Promise {
	var l []api.Promise
	for node := 1; node <= count; node++ {
		l = append(l, by(node))
	}
	return l
}

func TestP11_1Nodes(t *testing.T) {
	for _, nodes := range []int{low, low + 1, -5, -1, 0, 6, 7, 9, far, top} {
		right(t, "nodes that may not be", nodes, nil, false)
		right(t, "nodes that may not be", nodes, all(), false)
		right(t, "nodes that may not be", nodes, all(by(1)), false)
		right(t, "nodes that may not be", nodes, all(by(1, vote(1, b(1, 1), "x"))), false)
	}
	for nodes := 1; nodes <= api.MaxNodes; nodes++ {
		right(t, "no promises", nodes, nil, true)
		right(t, "no promises", nodes, all(), true)
		for count := 1; count <= api.MaxNodes+1; count++ {
			right(t, "a promise of each", nodes, each(count), count <= nodes)
		}
	}
}

func TestP11_1WhosePromises(t *testing.T) {
	for nodes := 1; nodes <= api.MaxNodes; nodes++ {
		for _, node := range []int{low, -nodes, -1, 0, 1, nodes, nodes + 1, nodes + 256, far, top} {
			is := node >= 1 && node <= nodes
			right(t, "one promise", nodes, all(by(node)), is)
			right(t, "one promise with a vote", nodes, all(by(node, vote(1, b(1, 1), "x"))), is)
			right(t, "two of one node", nodes, all(by(node), by(node)), false)
			if nodes > 1 {
				right(t, "behind another", nodes, all(by(2), by(node)), is && node != 2)
				right(t, "ahead of another", nodes, all(by(node), by(2)), is && node != 2)
			}
		}
		for first := range nodes {
			for second := range nodes {
				l := append(each(nodes), by(second+1))
				l[first], l[nodes] = l[nodes], l[first]
				right(t, "all and one twice", nodes, l, false)
			}
		}
	}
	right(t, "a zero promise", 3, all(api.Promise{}), false)
	right(t, "two of one node, with unlike votes", 3, all(by(2, vote(1, b(1, 1), "x")), by(1), by(2, vote(2, b(1, 1), "x"))), false)
	for _, l := range shuffles(all(by(1), by(2), by(4), by(5))) {
		right(t, "any order", 5, l, true)
		right(t, "any order, of fewer nodes", 4, l, false)
	}
}

func TestP11_1Slots(t *testing.T) {
	lists := []struct {
		what  string
		slots []int
		is    bool
	}{
		{"the first one", []int{1}, true},
		{"the last one", []int{far}, true},
		{"both ends", []int{1, far}, true},
		{"one behind the other", []int{1, 2, 3}, true},
		{"with gaps", []int{2, 4, 9, 1 << 33}, true},
		{"the last two", []int{far - 1, far}, true},
		{"slot 0", []int{0}, false},
		{"slot 0, ahead of others", []int{0, 1, 2}, false},
		{"below 0", []int{-1}, false},
		{"below 0, ahead of others", []int{-1, 1}, false},
		{"the least int", []int{low}, false},
		{"the least int, behind others", []int{1, low}, false},
		{"behind the last one", []int{far + 1}, false},
		{"behind the last one, too", []int{1, far, far + 1}, false},
		{"the greatest int", []int{top}, false},
		{"the greatest int, behind others", []int{1, 2, top}, false},
		{"the greatest int, ahead of others", []int{top, 1}, false},
		{"they fall", []int{2, 1}, false},
		{"they fall at the end", []int{1, 5, 3}, false},
		{"they fall in the middle", []int{5, 4, 6}, false},
		{"one twice", []int{3, 3}, false},
		{"one twice, at the end", []int{1, 2, 2}, false},
		{"one twice, at the beginning", []int{1, 1, 2}, false},
		{"the last one twice", []int{far, far}, false},
		{"one twice, apart", []int{1, 2, 1}, false},
	}
	for _, r := range lists {
		var votes []api.Vote
		for _, slot := range r.slots {
			votes = append(votes, vote(slot, b(1, 1), "x"))
		}
		good := vote(3, b(2, 2), "y")
		right(t, r.what, 3, all(by(1, votes...)), r.is)
		right(t, r.what+", behind another promise", 3, all(by(3, good), by(1, votes...)), r.is)
		right(t, r.what+", ahead of another promise", 3, all(by(2, votes...), by(3, good)), r.is)
	}
}

// Each promise has slots by itself: those of the next one may begin below.
func TestP11_1SlotsOfEach(t *testing.T) {
	same := rows(5, 3, b(2, 1))
	right(t, "the same slots", 3, all(by(1, same...), by(2, same...), by(3, same...)), true)
	right(t, "lower ones behind", 3, all(by(1, rows(9, 2, b(1, 1))...), by(3, rows(1, 2, b(1, 1))...)), true)
}

func TestP11_1HowManyVotes(t *testing.T) {
	for _, first := range []int{1, 1000, far - 15} {
		full := rows(first, api.MaxVotes, b(1, 2))
		right(t, "MaxVotes votes", 2, all(by(1, full...)), true)
		right(t, "MaxVotes votes of each", 2, all(by(2, full...), by(1, full...)), true)
		right(t, "one fewer", 2, all(by(1, full[1:]...)), true)
	}
	more := rows(1, api.MaxVotes+1, b(1, 2))
	right(t, "one more", 2, all(by(1, more...)), false)
	right(t, "one more, of the second promise", 2, all(by(1), by(2, more...)), false)
	right(t, "many more", 2, all(by(1, rows(1, 1000, b(1, 2))...)), false)
	var apart []api.Vote
	for i := range api.MaxVotes + 1 {
		apart = append(apart, vote(1+3*i, b(1, 1), ""))
	}
	right(t, "one more, with gaps", 2, all(by(1, apart...)), false)
	right(t, "MaxVotes, with gaps", 2, all(by(1, apart[:api.MaxVotes]...)), true)
}

func TestP11_1Ballots(t *testing.T) {
	ends := []int{low, -1, 0, 1, 2, 3, 4, 5, 6, far, top}
	for nodes := 1; nodes <= api.MaxNodes; nodes++ {
		for _, round := range ends {
			for _, node := range ends {
				is := round >= 1 && node >= 1 && node <= nodes
				bad, good := vote(2, b(round, node), "x"), b(1, 1)
				right(t, "one vote", nodes, all(by(1, bad)), is)
				right(t, "behind another", nodes, all(by(1, vote(1, good, "y"), bad)), is)
				right(t, "ahead of another", nodes, all(by(1, bad, vote(3, good, "y"))), is)
				if nodes > 1 {
					right(t, "of the second promise", nodes, all(by(2, vote(2, good, "y")), by(1, bad)), is)
				}
			}
		}
	}
	right(t, "a zero vote", 3, all(by(1, api.Vote{})), false)
	right(t, "a vote without a ballot", 3, all(by(1, api.Vote{Slot: 1})), false)
}

// A ballot may fall from slot to slot, and be whosever: of values and of whose
// turn it was nothing is asked.
func TestP11_1AsksNoMore(t *testing.T) {
	right(t, "ballots that fall", 3, all(by(1, vote(1, b(9, 3), "x"), vote(2, b(1, 2), "y"))), true)
	right(t, "values of no bytes", 3, all(by(1, api.Vote{Slot: 1, Ballot: b(1, 1)}, vote(2, b(1, 1), ""))), true)
	for _, size := range []int{api.MaxValue, api.MaxValue + 1, api.MaxFrame + 1} {
		long := strings.Repeat("v", size)
		right(t, "a long value", 1, all(by(1, vote(1, b(1, 1), long))), true)
		opens(t, "a long value", 1, 1, all(by(1, vote(1, b(1, 1), long))), "1="+long)
		chooses(t, "a long value", 1, all(by(1, vote(1, b(1, 1), long))), "1="+long)
	}
	right(t, "two values of one ballot", 3, all(by(1, vote(1, b(1, 1), "x")), by(2, vote(1, b(1, 1), "y"))), true)
}

func TestP11_2From(t *testing.T) {
	l := all(by(2, vote(2, b(1, 1), "x"), vote(4, b(1, 1), "y")), by(1, vote(5, b(2, 1), "z")))
	for _, from := range []int{low, low + 1, -far, -1, 0, far + 1, far + 2, top - 1024, top - 1023, top - 1, top} {
		refuses(t, "from may not be", 3, from, l, api.ErrArg)
		refuses(t, "from may not be, no votes", 3, from, all(by(1), by(2)), api.ErrArg)
	}
	lines := map[int]string{
		1: "1= 2=x 3= 4=y 5=z", 2: "2=x 3= 4=y 5=z", 3: "3= 4=y 5=z", 4: "4=y 5=z", 5: "5=z", 6: "", 7: "", 1029: "", 1 << 33: "", far - 1: "", far: "",
	}
	for from, entries := range lines {
		opens(t, "from", 3, from, l, entries)
	}
}

func TestP11_2FromNearTheEnd(t *testing.T) {
	l := all(by(1, vote(far-2, b(1, 1), "x"), vote(far, b(1, 1), "y")))
	opens(t, "near the end", 1, far-2, l, fmt.Sprintf("%d=x %d= %d=y", far-2, far-1, far))
	opens(t, "the last two", 1, far-1, l, fmt.Sprintf("%d= %d=y", far-1, far))
	opens(t, "the last one", 1, far, l, fmt.Sprintf("%d=y", far))
	refuses(t, "behind the last one", 1, far+1, l, api.ErrArg)
	refuses(t, "too far below", 1, far-1024, l, api.ErrFar)
	refuses(t, "from 1", 1, 1, l, api.ErrFar)
}

func TestP11_2Majority(t *testing.T) {
	for nodes := 1; nodes <= api.MaxNodes; nodes++ {
		for set := range 1 << nodes {
			var l, votes []api.Promise
			for node := nodes; node >= 1; node-- {
				if set>>(node-1)&1 == 1 {
					l = append(l, by(node))
					votes = append(votes, by(node, vote(2, b(3, 1), "x")))
				}
			}
			what := fmt.Sprintf("the set %b of %d nodes", set, nodes)
			if len(l) < majority(nodes) {
				refuses(t, what, nodes, 1, l, api.ErrFew)
				refuses(t, what, nodes, 1, votes, api.ErrFew)
				continue
			}
			opens(t, what, nodes, 1, l, "")
			opens(t, what, nodes, 1, votes, "1= 2=x")
		}
	}
	refuses(t, "nil", 1, 1, nil, api.ErrFew)
	refuses(t, "no promises", 5, 1, all(), api.ErrFew)
}

func TestP11_2TooFar(t *testing.T) {
	for _, from := range []int{1, 2, 700, 1 << 33, far - 1024} {
		in, out := vote(from+api.MaxWindow-1, b(1, 1), "in"), vote(from+api.MaxWindow, b(1, 1), "out")
		refuses(t, "a vote at from + MaxWindow", 1, from, all(by(1, out)), api.ErrFar)
		refuses(t, "behind one that may be", 1, from, all(by(1, in, out)), api.ErrFar)
		refuses(t, "of the first promise", 3, from, all(by(3, out), by(2)), api.ErrFar)
		refuses(t, "of the last promise", 3, from, all(by(3, in), by(2, vote(from, b(9, 3), "x"), out)), api.ErrFar)
		got, e := Open(1, from, all(by(1, in)))
		if e != api.OK || len(got) != api.MaxWindow {
			t.Fatalf("Open from %d with a vote one below: %d entries, error %d; want %d", from, len(got), e, api.MaxWindow)
		}
		for i, entry := range got {
			last := i == api.MaxWindow-1
			if entry.Slot != from+i || !last && len(entry.Value) != 0 || last && string(entry.Value) != "in" {
				t.Fatalf("Open from %d with a vote one below: at %d %d=%q", from, i, entry.Slot, entry.Value)
			}
		}
		refuses(t, "far off", 1, from, all(by(1, vote(far, b(1, 1), ""))), api.ErrFar)
	}
}

func TestP11_2VotesBelowFrom(t *testing.T) {
	l := all(by(1, rows(1, 16, b(1, 1))...), by(2, rows(3, 5, b(2, 2))...))
	opens(t, "all below from", 3, 17, l, "")
	opens(t, "all below from", 3, 5000, l, "")
	opens(t, "all but the last", 3, 16, l, "16=v16")
	opens(t, "some below, in one promise", 3, 6, all(l[1], by(3)), "6=v6 7=v7")
	mixed := all(by(1, vote(1, b(9, 1), "low"), vote(8, b(1, 1), "x")), by(3, vote(7, b(5, 1), "lower")))
	opens(t, "a greater ballot below from", 3, 8, mixed, "8=x")
	opens(t, "a hole between", 3, 6, mixed, "6= 7=lower 8=x")
}

func TestP11_2NoVotes(t *testing.T) {
	for _, from := range []int{1, 2, far} {
		opens(t, "no vote at all", 3, from, all(by(1), by(2)), "")
		opens(t, "no vote at all", 3, from, each(3), "")
		opens(t, "lists that are nil", 5, from, all(api.Promise{Node: 5}, api.Promise{Node: 2}, api.Promise{Node: 3, Votes: []api.Vote{}}), "")
	}
}

// Values of no bytes are votes as others are: they reach as far, and stand
// against values with a lower ballot.
func TestP11_2ValuesOfNoBytes(t *testing.T) {
	none := api.Vote{Slot: 3, Ballot: b(2, 2)}
	opens(t, "alone", 3, 1, all(by(1, none), by(2)), "1= 2= 3=")
	opens(t, "above another", 3, 1, all(by(1, none), by(2, vote(3, b(2, 1), "x"))), "1= 2= 3=")
	opens(t, "below another", 3, 1, all(by(1, none), by(2, vote(3, b(2, 3), "x"))), "1= 2= 3=x")
	chooses(t, "nil and empty", 3, all(by(1, none), by(2, vote(3, b(2, 2), ""))), "3=")
	chooses(t, "none and one", 3, all(by(1, none), by(2, vote(3, b(2, 2), "x"))), "")
	chooses(t, "none and a byte 0", 3, all(by(1, none), by(2, vote(3, b(2, 2), "\x00"))), "")
}

func TestP11_2GreatestBallot(t *testing.T) {
	sets := []struct {
		what   string
		votes  [3]api.Ballot
		winner int
	}{
		{"by the round, first", [3]api.Ballot{b(3, 1), b(2, 5), b(1, 5)}, 1},
		{"by the round, middle", [3]api.Ballot{b(2, 5), b(3, 1), b(1, 5)}, 2},
		{"by the round, last", [3]api.Ballot{b(2, 5), b(1, 5), b(3, 1)}, 3},
		{"by the node, first", [3]api.Ballot{b(2, 5), b(2, 3), b(2, 4)}, 1},
		{"by the node, middle", [3]api.Ballot{b(2, 3), b(2, 5), b(2, 4)}, 2},
		{"by the node, last", [3]api.Ballot{b(2, 3), b(2, 4), b(2, 5)}, 3},
		{"at the end of int", [3]api.Ballot{b(top-1, 5), b(top, 1), b(1, 5)}, 2},
		{"at the end of int, by the node", [3]api.Ballot{b(top, 1), b(top-1, 5), b(top, 2)}, 3},
		{"one ballot", [3]api.Ballot{b(4, 4), b(4, 4), b(4, 4)}, 1},
		{"one ballot of two, first", [3]api.Ballot{b(4, 4), b(4, 3), b(4, 4)}, 1},
		{"one ballot of two, behind", [3]api.Ballot{b(4, 3), b(4, 4), b(4, 4)}, 2},
		{"one ballot of two, ahead", [3]api.Ballot{b(4, 4), b(4, 4), b(3, 5)}, 1},
	}
	for _, r := range sets {
		var l []api.Promise
		for i, ballot := range r.votes {
			l = append(l, by(i+1, vote(7, ballot, fmt.Sprint("of ", i+1))))
		}
		for _, way := range shuffles(l) {
			opens(t, r.what, 5, 7, way, fmt.Sprint("7=of ", r.winner))
		}
	}
}

// The least node is that of the promise, not the place in the list.
func TestP11_2LeastNode(t *testing.T) {
	var l []api.Promise
	for node := 1; node <= api.MaxNodes; node++ {
		l = append(l, by(node, vote(1, b(2, 3), fmt.Sprint("of ", node))))
	}
	for skip := range 3 {
		for _, way := range shuffles(l[skip:]) {
			opens(t, "one ballot, unlike values", 5, 1, way, fmt.Sprint("1=of ", skip+1))
		}
	}
}

// Each slot has its own winner, from whichever promise.
func TestP11_2EachSlotByItself(t *testing.T) {
	l := all(
		by(4, vote(1, b(1, 1), "a4"), vote(2, b(3, 1), "b4"), vote(3, b(1, 1), "c4"), vote(6, b(1, 1), "f4")),
		by(1, vote(1, b(2, 1), "a1"), vote(2, b(2, 5), "b1"), vote(3, b(1, 2), "c1")),
		by(5, vote(1, b(1, 4), "a5"), vote(3, b(2, 1), "c5"), vote(8, b(1, 1), "h5")),
	)
	for _, way := range shuffles(l) {
		opens(t, "four slots", 5, 1, way, "1=a1 2=b4 3=c5 4= 5= 6=f4 7= 8=h5")
		opens(t, "from the third on", 5, 3, way, "3=c5 4= 5= 6=f4 7= 8=h5")
	}
}

// R5: of several errors the first one that the chapter names is answered.
func TestP11_2OrderOfErrors(t *testing.T) {
	bad := by(9, vote(5000, b(1, 1), "x"))
	alone := by(1, vote(5000, b(1, 1), "x"))
	refuses(t, "all four", 3, 0, all(bad), api.ErrForm)
	refuses(t, "not right, from may not be", 3, 0, all(bad, by(1)), api.ErrForm)
	refuses(t, "not right, too few", 3, 1, all(bad), api.ErrForm)
	refuses(t, "not right, too far", 3, 1, all(alone, alone), api.ErrForm)
	refuses(t, "nodes, from, few", 0, 0, nil, api.ErrForm)
	refuses(t, "nodes, few", 6, 1, nil, api.ErrForm)
	refuses(t, "from, few, far", 3, 0, all(alone), api.ErrArg)
	refuses(t, "from, few", 3, far+1, nil, api.ErrArg)
	refuses(t, "from, far", 3, 0, all(alone, by(2)), api.ErrArg)
	refuses(t, "few, far", 3, 1, all(alone), api.ErrFew)
	refuses(t, "far", 3, 1, all(alone, by(2)), api.ErrFar)
	opens(t, "none of them", 3, 5000, all(alone, by(2)), "5000=x")
}

func TestP11_3Majority(t *testing.T) {
	for nodes := 1; nodes <= api.MaxNodes; nodes++ {
		for count := 0; count <= nodes; count++ {
			for others := range 3 {
				var l []api.Promise
				for node := nodes; node >= 1; node-- {
					other := []api.Promise{by(node), by(node, vote(3, b(7, 1), "y")), by(node, vote(3, b(8, 1), "x"))}
					if node > nodes-count {
						l = append(l, by(node, vote(3, b(7, 1), "x")))
					} else {
						l = append(l, other[others])
					}
				}
				want := ""
				if count >= majority(nodes) {
					want = "3=x"
				} else if others > 0 && nodes-count >= majority(nodes) {
					want = []string{"", "3=y", "3=x"}[others]
				}
				chooses(t, fmt.Sprintf("%d of %d nodes, others %d", count, nodes, others), nodes, l, want)
			}
		}
	}
}

// A majority is of the nodes, not of the promises that are there.
func TestP11_3OfAllNodes(t *testing.T) {
	x := func(node int) api.Promise { return by(node, vote(1, b(1, 1), "x")) }
	chooses(t, "one promise of three nodes", 3, all(x(2)), "")
	chooses(t, "two promises of four nodes", 4, all(x(1), x(4)), "")
	chooses(t, "two promises of five nodes", 5, all(x(1), x(4)), "")
	chooses(t, "three promises of five nodes", 5, all(x(5), x(1), x(4)), "1=x")
	chooses(t, "three promises of four nodes", 4, all(x(2), x(1), x(4)), "1=x")
	chooses(t, "two promises of two nodes", 2, all(x(2), x(1)), "1=x")
	chooses(t, "one promise of one node", 1, all(x(1)), "1=x")
	chooses(t, "one promise of two nodes", 2, all(x(1)), "")
}

// One value is not enough, nor is one ballot: a majority has both.
func TestP11_3OneBallotAndValue(t *testing.T) {
	v := func(node, round, turn int, value string) api.Promise { return by(node, vote(6, b(round, turn), value)) }
	chooses(t, "unlike rounds, one value", 3, all(v(1, 1, 1, "x"), v(2, 2, 1, "x"), v(3, 3, 1, "x")), "")
	chooses(t, "unlike nodes, one value", 3, all(v(1, 1, 1, "x"), v(2, 1, 2, "x"), v(3, 1, 3, "x")), "")
	chooses(t, "one ballot, unlike values", 3, all(v(1, 1, 1, "x"), v(2, 1, 1, "y"), v(3, 1, 1, "z")), "")
	chooses(t, "one ballot, values that begin alike", 3, all(v(1, 1, 1, "x"), v(2, 1, 1, "xy"), v(3, 1, 1, "xyz")), "")
	chooses(t, "a lower ballot has the majority", 3, all(v(1, 1, 1, "x"), v(2, 9, 1, "y"), v(3, 1, 1, "x")), "6=x")
	chooses(t, "a greater ballot has the majority", 3, all(v(1, 1, 1, "x"), v(2, 9, 1, "y"), v(3, 9, 1, "y")), "6=y")
	chooses(t, "two majorities but for one", 4, all(v(1, 1, 1, "x"), v(2, 1, 1, "x"), v(3, 2, 1, "y"), v(4, 2, 1, "y")), "")
	chooses(t, "two of five, twice", 5, all(v(1, 1, 1, "x"), v(2, 1, 1, "x"), v(3, 2, 1, "x"), v(4, 2, 1, "x"), v(5, 3, 1, "x")), "")
	chooses(t, "at the end of int", 3, all(v(1, top, 3, "x"), v(2, top, 3, "x")), "6=x")
}

func TestP11_3RisingSlots(t *testing.T) {
	l := all(
		by(3, vote(2, b(1, 1), "b"), vote(9, b(4, 1), "i"), vote(500, b(2, 2), "m"), vote(far, b(1, 3), "z")),
		by(1, vote(1, b(1, 1), "a"), vote(9, b(4, 1), "i"), vote(11, b(1, 1), "k"), vote(far, b(1, 3), "z")),
		by(2, vote(1, b(1, 1), "a"), vote(2, b(1, 1), "b"), vote(11, b(1, 2), "k"), vote(500, b(2, 2), "m")),
	)
	for _, way := range shuffles(l) {
		chooses(t, "several slots", 3, way, fmt.Sprintf("1=a 2=b 9=i 500=m %d=z", far))
	}
	full := rows(far-15, api.MaxVotes, b(2, 1))
	var want []api.Entry
	for _, v := range full {
		want = append(want, api.Entry{Slot: v.Slot, Value: v.Value})
	}
	chooses(t, "MaxVotes slots", 3, all(by(2, full...), by(1, full...)), text(want))
	chooses(t, "no votes", 3, each(3), "")
	chooses(t, "no promises", 3, nil, "")
}

// Two values for one slot by hand would need a node with two votes for it, for
// any two majorities have a node in common: and that is not right.
func TestP11_3TwoValuesByHand(t *testing.T) {
	x, y := vote(1, b(1, 1), "x"), vote(1, b(2, 2), "y")
	for _, both := range [][]api.Vote{{x, y}, {y, x}} {
		right(t, "each votes twice", 3, all(by(1, both...), by(2, both...), by(3, both...)), false)
		right(t, "one votes twice", 3, all(by(1, x), by(2, both...), by(3, y)), false)
		right(t, "the one node votes twice", 1, all(by(1, both...)), false)
	}
	right(t, "a node promises twice", 3, all(by(1, x), by(2, x), by(2, y), by(3, y)), false)
	chooses(t, "with one vote of each", 4, all(by(1, x), by(2, x), by(3, y), by(4, y)), "")
}
