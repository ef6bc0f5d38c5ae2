package peer

import (
	"fmt"
	"math"
	"reflect"
	"strings"
	"testing"

	"purse/api"
)

func TestPrepare(t *testing.T) {
	s := api.Saved{Promised: bal(3, 2), Entries: entries(1, 2), Votes: votes(4, 6, bal(2, 3))}
	ask := func(what string, b api.Ballot, slot int, line string) {
		t.Helper()
		p := made(t, 1, 3, s)
		step(t, p, api.Letter{Kind: api.LetPrepare, From: 3, To: 1, Ballot: b, Slot: slot})
		ready(t, what, p, line)
	}
	first := `vote 4{2 3}"w4" vote 5{2 3}"w5" vote 6{2 3}"w6" vote 7{2 3}"w7"`
	ask("below", bal(3, 1), 3, "; reject 1>3 {3 2}; ")
	ask("far below", bal(1, 3), 3, "; reject 1>3 {3 2}; ")
	ask("none", api.Ballot{}, 3, "; reject 1>3 {3 2}; ")
	ask("at", bal(3, 2), 3, "; promise 1>3 {3 2} at 3 commit 2 "+first+"; ")
	ask("above", bal(3, 3), 3, "promise {3 3}; promise 1>3 {3 3} at 3 commit 2 "+first+"; ")
	ask("far above", bal(math.MaxInt, 1), 1, fmt.Sprintf("promise {%d 1}; promise 1>3 {%[1]d 1} at 1 commit 2 %s; ", math.MaxInt, first))
	ask("from a vote on", bal(4, 3), 4, "promise {4 3}; promise 1>3 {4 3} at 4 commit 2 "+first+"; ")
	ask("from behind it", bal(4, 3), 5, `promise {4 3}; promise 1>3 {4 3} at 5 commit 2 vote 5{2 3}"w5" vote 6{2 3}"w6" vote 7{2 3}"w7" vote 8{2 3}"w8"; `)
	ask("four are left", bal(4, 3), 6, `promise {4 3}; promise 1>3 {4 3} at 6 commit 2 vote 6{2 3}"w6" vote 7{2 3}"w7" vote 8{2 3}"w8" vote 9{2 3}"w9"; `)
	ask("three are left", bal(4, 3), 7, `promise {4 3}; promise 1>3 {4 3} at 7 commit 2 vote 7{2 3}"w7" vote 8{2 3}"w8" vote 9{2 3}"w9"; `)
	ask("none is left", bal(4, 3), 10, "promise {4 3}; promise 1>3 {4 3} at 10 commit 2; ")
	for _, slot := range []int{math.MinInt, -1} {
		ask("from nowhere", bal(4, 3), slot, fmt.Sprintf("promise {4 3}; promise 1>3 {4 3} at %d commit 2 %s; ", slot, first))
	}
	for _, slot := range []int{last, math.MaxInt} {
		ask("from far on", bal(4, 3), slot, fmt.Sprintf("promise {4 3}; promise 1>3 {4 3} at %d commit 2; ", slot))
	}
	p := known(t, 1, 3, 0)
	step(t, p, api.Letter{Kind: api.LetPrepare, From: 3, To: 1, Slot: 1})
	ready(t, "no ballot, to one that has promised none", p, nothing)
}

// candidate is the member 1 of so many, that knows so many entries, and has drawn.
func candidate(t testing.TB, nodes, count int) *Peer {
	t.Helper()
	p := known(t, 1, nodes, count)
	want(t, "Draw", p.Draw(), api.OK)
	p.Ready()
	return p
}

func TestPromise(t *testing.T) {
	p := candidate(t, 5, 2)
	promise := func(what string, l api.Letter, line, is string) {
		t.Helper()
		l.Kind, l.To, l.Ballot = api.LetPromise, 1, bal(1, 1)
		step(t, p, l)
		ready(t, what, p, line)
		stands(t, what, p, is)
	}
	not := "false 0 2 {1 1}"
	promise("four votes", api.Letter{From: 2, Slot: 3, Commit: 2, Votes: votes(3, 4, bal(1, 1))}, "; prepare 1>2 {1 1} at 7; ", not)
	promise("the same", api.Letter{From: 2, Slot: 3, Commit: 2, Votes: votes(3, 4, bal(1, 1))}, nothing, not)
	p.Tick()
	ready(t, "Tick", p, "; prepare 1>2 {1 1} at 7, prepare 1>3 {1 1} at 3, prepare 1>4 {1 1} at 3, prepare 1>5 {1 1} at 3; ")
	promise("four more", api.Letter{From: 2, Slot: 7, Commit: 2, Votes: []api.Vote{vote(7, bal(1, 1), "a"), vote(8, bal(1, 1), "b"), vote(10, bal(1, 1), "c"), vote(12, bal(1, 1), "d")}}, "; prepare 1>2 {1 1} at 13; ", not)
	promise("no more", api.Letter{From: 2, Slot: 13, Commit: 2}, nothing, not)
	promise("once more", api.Letter{From: 2, Slot: 13, Commit: 2}, nothing, not)
	p.Tick()
	ready(t, "Tick", p, "; prepare 1>3 {1 1} at 3, prepare 1>4 {1 1} at 3, prepare 1>5 {1 1} at 3; ")
	promise("too late a slot", api.Letter{From: 3, Slot: 4, Commit: 2}, nothing, not)
	step(t, p, api.Letter{Kind: api.LetPromise, From: 4, To: 1, Slot: 3, Commit: 2})
	stands(t, "of no ballot", p, not)
	step(t, p, api.Letter{Kind: api.LetPromise, From: 3, To: 1, Ballot: bal(1, 1), Slot: 3, Commit: 2, Votes: []api.Vote{vote(3, bal(1, 1), "w3"), vote(4, bal(1, 1), "w4"), vote(9, bal(1, 1), "z")}})
	stands(t, "a third with three votes", p, "true 1 2 {1 1}")
	var line []string
	for _, n := range p.Ready().Notes {
		line = append(line, showNote(n))
	}
	if got := strings.Join(line, ", "); got != `vote 3{1 1}"w3", vote 4{1 1}"w4", vote 5{1 1}"w5", vote 6{1 1}"w6", vote 7{1 1}"a", vote 8{1 1}"b", vote 9{1 1}"z", vote 10{1 1}"c", vote 11{1 1}"", vote 12{1 1}"d"` {
		t.Error("what is proposed:", got)
	}
	promise("late", api.Letter{From: 4, Slot: 3, Commit: 9}, nothing, "true 1 2 {1 1}")
	q := known(t, 1, 3, 0)
	step(t, q, api.Letter{Kind: api.LetPromise, From: 2, To: 1, Ballot: bal(1, 1), Slot: 1})
	stands(t, "of one that is none", q, "false 0 0 {0 0}")
}

// The greatest ballot's value is proposed, be it of its own.
func TestPromiseOfUnlikeVotes(t *testing.T) {
	p := made(t, 2, 3, api.Saved{Promised: bal(5, 1), Votes: []api.Vote{vote(1, bal(3, 1), "mine"), vote(2, bal(5, 1), "mine")}})
	p.Draw()
	p.Ready()
	step(t, p, api.Letter{Kind: api.LetPromise, From: 3, To: 2, Ballot: bal(6, 2), Slot: 1, Votes: []api.Vote{vote(1, bal(3, 3), "theirs"), vote(2, bal(4, 3), "theirs")}})
	ready(t, "unlike votes", p, `vote 1{6 2}"theirs", vote 2{6 2}"mine"; accept 2>1 {6 2} at 1 1="theirs", accept 2>3 {6 2} at 1 1="theirs", accept 2>1 {6 2} at 2 2="mine", accept 2>3 {6 2} at 2 2="mine"; `)
}

// Votes of others for slots that are known are left out.
func TestPromiseOfWhatIsKnown(t *testing.T) {
	p := candidate(t, 3, 2)
	step(t, p, api.Letter{Kind: api.LetPromise, From: 3, To: 1, Ballot: bal(1, 1), Slot: 1, Votes: votes(1, 3, bal(1, 1))})
	ready(t, "votes that are behind", p, `vote 3{1 1}"w3"; accept 1>2 {1 1} at 3 commit 2 3="w3", accept 1>3 {1 1} at 3 commit 2 3="w3"; `)
}

// Letters that no member that has promised can have written bring nothing.
func TestPromiseThatMayNotBe(t *testing.T) {
	good := votes(3, 2, bal(1, 1))
	with := func(do func(l []api.Vote)) []api.Vote {
		l := votes(3, 2, bal(1, 1))
		do(l)
		return l
	}
	for what, l := range map[string]api.Letter{
		"a ballot above":        {Slot: 3, Commit: 2, Votes: with(func(l []api.Vote) { l[1].Ballot = bal(1, 2) })},
		"a ballot of nobody":    {Slot: 3, Commit: 2, Votes: with(func(l []api.Vote) { l[1].Ballot = api.Ballot{} })},
		"a round below":         {Slot: 3, Commit: 2, Votes: with(func(l []api.Vote) { l[1].Ballot = bal(0, 1) })},
		"a node above":          {Slot: 3, Commit: 2, Votes: with(func(l []api.Vote) { l[1].Ballot = bal(0, 4) })},
		"too long a value":      {Slot: 3, Commit: 2, Votes: with(func(l []api.Vote) { l[0].Value = make([]byte, api.MaxValue+1) })},
		"a slot ahead of Slot":  {Slot: 3, Commit: 2, Votes: with(func(l []api.Vote) { l[0].Slot = 2 })},
		"a slot too far":        {Slot: 3, Commit: 2, Votes: with(func(l []api.Vote) { l[1].Slot = 19 })},
		"a slot much too far":   {Slot: 3, Commit: 2, Votes: with(func(l []api.Vote) { l[1].Slot = math.MaxInt })},
		"a least slot":          {Slot: math.MinInt, Commit: 2, Votes: with(func(l []api.Vote) { l[0].Slot = math.MinInt })},
		"another ballot":        {Ballot: bal(1, 1), Slot: 3, Commit: 2, Votes: good},
		"a slot behind the one": {Slot: 4, Commit: 2},
		"a slot below all":      {Slot: -1, Commit: 2},
	} {
		p, q := made(t, 2, 3, api.Saved{Entries: entries(1, 2)}), made(t, 2, 3, api.Saved{Entries: entries(1, 2)})
		p.Draw()
		q.Draw()
		l.Kind, l.From, l.To = api.LetPromise, 1, 2
		if l.Ballot == (api.Ballot{}) {
			l.Ballot = bal(1, 2)
			if what == "a ballot above" {
				l.Votes[1].Ballot = bal(1, 3)
			}
		}
		step(t, p, l)
		q.member.seen = p.member.seen
		if p.Leads() || !reflect.DeepEqual(p, q) {
			t.Errorf("%s: it leads: %v, or something has changed", what, p.Leads())
		}
	}
	p := candidate(t, 3, 2)
	step(t, p, api.Letter{Kind: api.LetPromise, From: 2, To: 1, Ballot: bal(1, 1), Slot: 3, Commit: 2, Votes: votes(17, 2, bal(1, 1))})
	stands(t, "the furthest slot", p, "true 1 2 {1 1}")
	p = candidate(t, 3, 2)
	step(t, p, api.Letter{Kind: api.LetPromise, From: 2, To: 1, Ballot: bal(1, 1), Slot: 3, Commit: 1, Votes: []api.Vote{vote(18, bal(1, 1), string(make([]byte, api.MaxValue)))}})
	stands(t, "of one that is behind", p, "true 1 2 {1 1}")
}

// A candidate never has more votes of one member than may be, nor leads by them.
func TestPromiseOfTooManyVotes(t *testing.T) {
	p := candidate(t, 3, 0)
	for n := range 4 {
		step(t, p, api.Letter{Kind: api.LetPromise, From: 2, To: 1, Ballot: bal(1, 1), Slot: 1 + 4*n, Commit: 4 * n, Votes: votes(1+4*n, 4, bal(1, 1))})
	}
	p.Ready()
	step(t, p, api.Letter{Kind: api.LetPromise, From: 2, To: 1, Ballot: bal(1, 1), Slot: 17, Commit: 12, Votes: votes(17, 1, bal(1, 1))})
	ready(t, "seventeen votes", p, nothing)
	p.Tick()
	ready(t, "Tick", p, "; prepare 1>2 {1 1} at 17, prepare 1>3 {1 1} at 1, ask 1>2 at 1; ")
}

// A candidate that is behind asks, and leads once its commit is so far.
func TestPromiseOfOnesThatAreAhead(t *testing.T) {
	p := candidate(t, 5, 2)
	promise := func(from, commit int) {
		t.Helper()
		step(t, p, api.Letter{Kind: api.LetPromise, From: from, To: 1, Ballot: bal(1, 1), Slot: 3, Commit: commit})
	}
	promise(2, 5)
	ready(t, "no majority", p, nothing)
	p.Tick()
	ready(t, "Tick", p, "; prepare 1>3 {1 1} at 3, prepare 1>4 {1 1} at 3, prepare 1>5 {1 1} at 3, ask 1>2 at 3; ")
	promise(3, 7)
	ready(t, "a majority", p, "; ask 1>3 at 3; ")
	promise(4, 7)
	ready(t, "one more", p, "; ask 1>3 at 3; ")
	promise(5, 1)
	ready(t, "one more, that is behind", p, "; ask 1>3 at 3; ")
	p.Tick()
	ready(t, "Tick", p, "; ask 1>3 at 3; ")
	step(t, p, api.Letter{Kind: api.LetLearn, From: 2, To: 1, Slot: 3, Commit: 5, Entries: entries(3, 3)})
	ready(t, "not so far", p, `entry 3="e3", entry 4="e4", entry 5="e5"; ask 1>3 at 6; 3="e3", 4="e4", 5="e5"`)
	stands(t, "not so far", p, "false 0 5 {1 1}")
	step(t, p, api.Letter{Kind: api.LetLearn, From: 4, To: 1, Slot: 6, Commit: 7, Entries: entries(6, 1)})
	ready(t, "not so far", p, `entry 6="e6"; ask 1>4 at 7; 6="e6"`)
	step(t, p, api.Letter{Kind: api.LetLearn, From: 4, To: 1, Slot: 7, Commit: 9, Entries: entries(7, 1)})
	ready(t, "so far, and not as far as the one that tells", p, `entry 7="e7"; ask 1>4 at 8; 7="e7"`)
	stands(t, "so far", p, "true 1 7 {1 1}")
}

func TestPromiseOfOnesThatAreAheadByAnImage(t *testing.T) {
	p := candidate(t, 3, 2)
	step(t, p, api.Letter{Kind: api.LetPromise, From: 2, To: 1, Ballot: bal(1, 1), Slot: 3, Commit: 7, Votes: votes(9, 1, bal(1, 1))})
	ready(t, "behind", p, "; ask 1>2 at 3; ")
	sendPieces(t, p, 2, 6, "image")
	ready(t, "not so far", p, `image 6="image"; ask 1>2 at 7; ; image 6="image"`)
	stands(t, "not so far", p, "false 0 6 {1 1}")
	sendPieces(t, p, 3, 7, "image")
	stands(t, "so far", p, "true 1 7 {1 1}")
	ready(t, "so far", p, `image 7="image", vote 8{1 1}"", vote 9{1 1}"w9"; `+
		`accept 1>2 {1 1} at 8 commit 7 8="", accept 1>3 {1 1} at 8 commit 7 8="", accept 1>2 {1 1} at 9 commit 7 9="w9", accept 1>3 {1 1} at 9 commit 7 9="w9", ask 1>3 at 8; ; image 7="image"`)
}

// A candidate's own votes of slots that it has learnt since are not proposed.
func TestCandidateThatLearns(t *testing.T) {
	p := made(t, 1, 3, api.Saved{Promised: bal(1, 2), Votes: votes(1, 3, bal(1, 2))})
	p.Draw()
	step(t, p, api.Letter{Kind: api.LetLearn, From: 3, To: 1, Slot: 1, Commit: 2, Entries: entries(1, 2)})
	p.Ready()
	p.Tick()
	ready(t, "Tick", p, "; prepare 1>2 {2 1} at 1, prepare 1>3 {2 1} at 1; ")
	step(t, p, api.Letter{Kind: api.LetPromise, From: 2, To: 1, Ballot: bal(2, 1), Slot: 1, Votes: votes(1, 3, bal(1, 2))})
	ready(t, "leads", p, `vote 3{2 1}"w3"; accept 1>2 {2 1} at 3 commit 2 3="w3", accept 1>3 {2 1} at 3 commit 2 3="w3"; `)
}

// What a member alone finds of itself is chosen at once.
func TestOneAlone(t *testing.T) {
	p := made(t, 1, 1, api.Saved{Promised: bal(4, 1), Entries: entries(1, 1), Votes: []api.Vote{vote(2, bal(3, 1), "x"), vote(4, bal(4, 1), "y")}})
	want(t, "Draw", p.Draw(), api.OK)
	ready(t, "Draw", p, `promise {5 1}, vote 2{5 1}"x", vote 3{5 1}"", vote 4{5 1}"y", entry 2="x", entry 3="", entry 4="y"; ; 2="x", 3="", 4="y"`)
	stands(t, "one alone", p, "true 1 4 {5 1}")
}

// acceptLetter asks for a vote.
func acceptLetter(b api.Ballot, slot, commit int, value string) api.Letter {
	return api.Letter{Kind: api.LetAccept, From: 2, To: 1, Ballot: b, Slot: slot, Commit: commit, Entries: one(slot, value)}
}

func TestAccept(t *testing.T) {
	long := strings.Repeat("v", api.MaxValue)
	for _, c := range []struct {
		what string
		l    api.Letter
		line string
	}{
		{"below", acceptLetter(bal(2, 2), 6, 9, "x"), "; reject 1>2 {2 3}; "},
		{"below, and not behind the commit", acceptLetter(bal(2, 2), 5, 0, "x"), "; reject 1>2 {2 3}; "},
		{"below, and too far", acceptLetter(bal(2, 2), 99, 0, "x"), "; reject 1>2 {2 3}; "},
		{"below, and too long", acceptLetter(bal(2, 2), 6, 0, long+"v"), "; reject 1>2 {2 3}; "},
		{"no ballot", acceptLetter(api.Ballot{}, 6, 9, "x"), "; reject 1>2 {2 3}; "},
		{"at", acceptLetter(bal(2, 3), 6, 5, "x"), `vote 6{2 3}"x"; accepted 1>2 {2 3} at 6; `},
		{"above", acceptLetter(bal(3, 1), 6, 4, "x"), `vote 6{3 1}"x"; accepted 1>2 {3 1} at 6; `},
		{"no bytes", acceptLetter(bal(3, 1), 6, 0, ""), `vote 6{3 1}""; accepted 1>2 {3 1} at 6; `},
		{"the longest", acceptLetter(bal(3, 1), 6, 0, long), fmt.Sprintf("vote 6{3 1}%s; accepted 1>2 {3 1} at 6; ", showBytes([]byte(long)))},
		{"too long", acceptLetter(bal(3, 1), 6, 0, long+"v"), nothing},
		{"the furthest", acceptLetter(bal(3, 1), 21, 0, "x"), `vote 21{3 1}"x"; accepted 1>2 {3 1} at 21; `},
		{"too far", acceptLetter(bal(3, 1), 22, 0, "x"), nothing},
		{"much too far", acceptLetter(bal(3, 1), math.MaxInt, 0, "x"), nothing},
		{"known", acceptLetter(bal(3, 1), 5, 5, "x"), `; learn 1>2 at 5 commit 5 5="e5"; `},
		{"known, with others behind", acceptLetter(bal(2, 3), 4, 5, "x"), `; learn 1>2 at 4 commit 5 4="e4" 5="e5"; `},
		{"in the image", acceptLetter(bal(2, 3), 3, 5, "x"), `; piece 1>2 at 3 0 of 1 "image"; `},
		{"far behind", acceptLetter(bal(2, 3), math.MinInt, 5, "x"), `; piece 1>2 at 3 0 of 1 "image"; `},
		{"no entry", api.Letter{Kind: api.LetAccept, From: 2, To: 1, Ballot: bal(3, 1), Slot: 6}, nothing},
		{"two entries", api.Letter{Kind: api.LetAccept, From: 2, To: 1, Ballot: bal(3, 1), Slot: 6, Entries: entries(6, 2)}, nothing},
		{"an entry of another slot", api.Letter{Kind: api.LetAccept, From: 2, To: 1, Ballot: bal(3, 1), Slot: 6, Entries: entries(7, 1)}, nothing},
		{"known, and a commit above", acceptLetter(bal(3, 1), 5, 7, "x"), `; learn 1>2 at 5 commit 5 5="e5", ask 1>2 at 6; `},
		{"too far, and a commit above", acceptLetter(bal(3, 1), 23, 22, "x"), "; ask 1>2 at 6; "},
		{"a vote, and a commit above", acceptLetter(bal(3, 1), 8, 7, "x"), `vote 8{3 1}"x"; accepted 1>2 {3 1} at 8, ask 1>2 at 6; `},
	} {
		p := made(t, 1, 3, api.Saved{Promised: bal(2, 3), Index: 3, Image: []byte("image"), Entries: entries(4, 2)})
		step(t, p, c.l)
		ready(t, c.what, p, c.line)
	}
	p := known(t, 1, 3, 0)
	step(t, p, acceptLetter(api.Ballot{}, 1, 0, "x"))
	ready(t, "no ballot, to one that has promised none", p, nothing)
}

// A refused vote promises nothing.
func TestAcceptThatCanNotBe(t *testing.T) {
	p := known(t, 1, 3, 0)
	step(t, p, acceptLetter(bal(5, 2), 17, 0, "x"))
	step(t, p, acceptLetter(bal(1, 2), 1, 0, "x"))
	ready(t, "a lower ballot", p, `vote 1{1 2}"x"; accepted 1>2 {1 2} at 1; `)
}

// What is known of a commit hangs on votes by just that ballot.
func TestHeardCommit(t *testing.T) {
	s := api.Saved{Promised: bal(3, 2), Entries: entries(1, 1), Votes: []api.Vote{
		vote(2, bal(3, 2), "a"), vote(3, bal(3, 2), "b"), vote(4, bal(2, 3), "c"), vote(5, bal(3, 2), "d"), vote(7, bal(3, 2), "e")}}
	for _, c := range []struct {
		b      api.Ballot
		commit int
		line   string
	}{
		{bal(3, 2), 0, nothing},
		{bal(3, 2), 1, nothing},
		{bal(3, 2), math.MinInt, nothing},
		{bal(3, 2), 2, `entry 2="a"; ; 2="a"`},
		{bal(3, 2), 3, `entry 2="a", entry 3="b"; ; 2="a", 3="b"`},
		{bal(3, 2), 4, `entry 2="a", entry 3="b"; ask 1>2 at 4; 2="a", 3="b"`},
		{bal(3, 2), 9, `entry 2="a", entry 3="b"; ask 1>2 at 4; 2="a", 3="b"`},
		{bal(3, 2), math.MaxInt, `entry 2="a", entry 3="b"; ask 1>2 at 4; 2="a", 3="b"`},
		{bal(3, 3), 3, "; ask 1>2 at 2; "},
		{bal(4, 2), 2, "; ask 1>2 at 2; "},
		{bal(4, 2), 1, nothing},
		{bal(2, 3), 9, nothing},
		{bal(3, 1), 2, nothing},
		{api.Ballot{}, 2, nothing},
	} {
		p := made(t, 1, 3, s)
		step(t, p, api.Letter{Kind: api.LetBeat, From: 2, To: 1, Ballot: c.b, Commit: c.commit})
		ready(t, fmt.Sprintf("a beat by %v with the commit %d", c.b, c.commit), p, c.line)
	}
	p := made(t, 1, 3, s)
	step(t, p, acceptLetter(bal(3, 2), 4, 3, "x"))
	ready(t, "a vote and a commit", p, `vote 4{3 2}"x", entry 2="a", entry 3="b"; accepted 1>2 {3 2} at 4; 2="a", 3="b"`)
	step(t, p, api.Letter{Kind: api.LetBeat, From: 2, To: 1, Ballot: bal(3, 2), Commit: 7})
	ready(t, "up to the next that lacks", p, `entry 4="x", entry 5="d"; ask 1>2 at 6; 4="x", 5="d"`)
	step(t, p, acceptLetter(bal(3, 2), 6, 6, "y"))
	ready(t, "a commit of the vote itself", p, `vote 6{3 2}"y", entry 6="y"; accepted 1>2 {3 2} at 6; 6="y"`)
	q := known(t, 1, 3, 0)
	step(t, q, api.Letter{Kind: api.LetBeat, From: 3, To: 1, Commit: 2})
	ready(t, "no ballot, to one that has promised none", q, "; ask 1>3 at 1; ")
}

func TestAsk(t *testing.T) {
	p := made(t, 1, 3, api.Saved{Entries: entries(1, 6)})
	ask := func(slot int, line string) {
		t.Helper()
		step(t, p, api.Letter{Kind: api.LetAsk, From: 3, To: 1, Slot: slot})
		ready(t, fmt.Sprint("asked for ", slot), p, line)
	}
	four := `1="e1" 2="e2" 3="e3" 4="e4"; `
	ask(1, "; learn 1>3 at 1 commit 6 "+four)
	ask(0, "; learn 1>3 commit 6 "+four)
	ask(-1, "; learn 1>3 at -1 commit 6 "+four)
	ask(math.MinInt, fmt.Sprintf("; learn 1>3 at %d commit 6 %s", math.MinInt, four))
	ask(3, `; learn 1>3 at 3 commit 6 3="e3" 4="e4" 5="e5" 6="e6"; `)
	ask(4, `; learn 1>3 at 4 commit 6 4="e4" 5="e5" 6="e6"; `)
	ask(6, `; learn 1>3 at 6 commit 6 6="e6"; `)
	ask(7, "; learn 1>3 at 7 commit 6; ")
	ask(math.MaxInt, fmt.Sprintf("; learn 1>3 at %d commit 6; ", math.MaxInt))
	want(t, "Compact", p.Compact(4, image(1025)), api.OK)
	p.Ready()
	three := fmt.Sprintf(`; piece 1>3 at 4 0 of 3 %s, piece 1>3 at 4 1 of 3 %[1]s, piece 1>3 at 4 2 of 3 "i"; `, showBytes(image(512)))
	for _, slot := range []int{math.MinInt, 0, 1, 4} {
		ask(slot, three)
	}
	ask(5, `; learn 1>3 at 5 commit 6 5="e5" 6="e6"; `)
	want(t, "Compact", p.Compact(6, nil), api.OK)
	p.Ready()
	ask(6, "; piece 1>3 at 6 0 of 1 \"\"; ")
	ask(7, "; learn 1>3 at 7 commit 6; ")
	q := known(t, 1, 3, 0)
	step(t, q, api.Letter{Kind: api.LetAsk, From: 2, To: 1})
	ready(t, "asked for nothing, of one that knows nothing", q, "; learn 1>2; ")
}

func TestLearn(t *testing.T) {
	long := strings.Repeat("v", api.MaxValue)
	for _, c := range []struct {
		what    string
		commit  int
		entries []api.Entry
		line    string
	}{
		{"nothing", 9, nil, nothing},
		{"what follows", 4, entries(3, 2), `entry 3="e3", entry 4="e4"; ; 3="e3", 4="e4"`},
		{"what follows, and no commit", 0, entries(3, 1), `entry 3="e3"; ; 3="e3"`},
		{"what follows, and more is there", 5, entries(3, 2), `entry 3="e3", entry 4="e4"; ask 1>2 at 5; 3="e3", 4="e4"`},
		{"four", 7, entries(3, 4), `entry 3="e3", entry 4="e4", entry 5="e5", entry 6="e6"; ask 1>2 at 7; 3="e3", 4="e4", 5="e5", 6="e6"`},
		{"a gap", 9, entries(4, 3), nothing},
		{"what is known", 9, entries(1, 2), nothing},
		{"what is known, and what follows", 4, entries(2, 3), `entry 3="e3", entry 4="e4"; ; 3="e3", 4="e4"`},
		{"a gap within", 5, append(entries(3, 1), entries(5, 1)...), `entry 3="e3"; ask 1>2 at 4; 3="e3"`},
		{"no bytes", 3, one(3, ""), `entry 3=""; ; 3=""`},
		{"the longest", 3, one(3, long), fmt.Sprintf("entry 3=%s; ; 3=%[1]s", showBytes([]byte(long)))},
		{"too long", 9, one(3, long+"v"), nothing},
		{"a greatest slot", 9, one(math.MaxInt, "x"), nothing},
	} {
		p := known(t, 1, 3, 2)
		step(t, p, api.Letter{Kind: api.LetLearn, From: 2, To: 1, Slot: 3, Commit: c.commit, Entries: c.entries})
		ready(t, c.what, p, c.line)
	}
}

// Votes of what is learnt are let go, others stay.
func TestLearnOfSlotsWithVotes(t *testing.T) {
	p := made(t, 1, 3, api.Saved{Promised: bal(2, 3), Votes: votes(1, 4, bal(2, 3))})
	step(t, p, api.Letter{Kind: api.LetLearn, From: 2, To: 1, Slot: 1, Commit: 2, Entries: entries(1, 2)})
	step(t, p, api.Letter{Kind: api.LetPrepare, From: 2, To: 1, Ballot: bal(3, 2), Slot: 1})
	ready(t, "learnt", p, `entry 1="e1", entry 2="e2", promise {3 2}; promise 1>2 {3 2} at 1 commit 2 vote 3{2 3}"w3" vote 4{2 3}"w4"; 1="e1", 2="e2"`)
	sendPieces(t, p, 3, 3, "i")
	step(t, p, api.Letter{Kind: api.LetPrepare, From: 2, To: 1, Ballot: bal(3, 2), Slot: 1})
	ready(t, "an image", p, `image 3="i"; ask 1>3 at 4, promise 1>2 {3 2} at 1 commit 3 vote 4{2 3}"w4"; ; image 3="i"`)
}

// put lets one piece come.
func put(t testing.TB, p *Peer, from, slot int, x api.Piece) {
	t.Helper()
	step(t, p, api.Letter{Kind: api.LetPiece, From: from, To: p.member.node, Slot: slot, Piece: x})
}

func TestPiecesInAnyOrder(t *testing.T) {
	whole := string(image(1025))
	l := cut(whole)
	for _, order := range [][]int{{0, 1, 2}, {0, 2, 1}, {1, 0, 2}, {1, 2, 0}, {2, 0, 1}, {2, 1, 0}, {2, 2, 1, 2, 1, 0}} {
		p := known(t, 1, 3, 2)
		for at, n := range order {
			if at == len(order)-1 {
				ready(t, "not all", p, nothing)
			}
			put(t, p, 2, 5, l[n])
		}
		ready(t, fmt.Sprint("the order ", order), p, fmt.Sprintf("image 5=%s; ask 1>2 at 6; ; image 5=%[1]s", showBytes([]byte(whole))))
		stands(t, "an image", p, "false 0 5 {0 0}")
		for _, n := range order {
			put(t, p, 2, 5, l[n])
		}
		ready(t, "once more", p, nothing)
	}
}

func TestPiecesOfNoUse(t *testing.T) {
	p := known(t, 1, 3, 2)
	for _, slot := range []int{math.MinInt, -1, 0, 1, 2, last, last + 1, math.MaxInt} {
		sendPieces(t, p, 2, slot, "image")
	}
	ready(t, "not above the commit, or where none may be", p, nothing)
	good := cut("image")[0]
	for what, x := range map[string]api.Piece{
		"nothing":        {},
		"another sum":    {Of: 1, Sum: good.Sum + 1, Data: good.Data},
		"a number below": {At: -1, Of: 1, Sum: good.Sum, Data: good.Data},
		"a number above": {At: 1, Of: 1, Sum: good.Sum, Data: good.Data},
		"too long":       {Of: 1, Data: make([]byte, api.MaxPiece+1)},
		"too many":       {Of: api.MaxPieces + 1, Data: make([]byte, api.MaxPiece)},
		"too short":      {Of: 2, Sum: good.Sum, Data: good.Data},
	} {
		put(t, p, 2, 3, x)
		if len(p.member.boxes) > 0 {
			t.Errorf("%s: something is kept of it", what)
		}
	}
	ready(t, "what may not be", p, nothing)
	put(t, p, 3, 3, good)
	ready(t, "a good one", p, `image 3="image"; ask 1>3 at 4; ; image 3="image"`)
	sendPieces(t, p, 3, last-1, "")
	ready(t, "the last slot", p, fmt.Sprintf(`image %d=""; ask 1>3 at %d; ; image %[1]d=""`, last-1, last))
}

// Pieces of several images keep apart; all that come whole count, as long as they
// are above the commit.
func TestPiecesOfAnotherInTheMidst(t *testing.T) {
	a, b := cut(string(image(600))), cut(strings.Repeat("b", 700))
	p := known(t, 1, 3, 0)
	put(t, p, 2, 5, a[0])
	put(t, p, 3, 4, b[0])
	put(t, p, 2, 5, b[1])
	ready(t, "halves", p, nothing)
	put(t, p, 3, 4, b[1])
	stands(t, "the lower one", p, "false 0 4 {0 0}")
	put(t, p, 3, 5, a[1])
	stands(t, "the greater one", p, "false 0 5 {0 0}")
	if len(p.member.boxes) > 0 {
		t.Error("pieces are kept of images that are behind")
	}
	ready(t, "both", p, fmt.Sprintf(`image 4=%s, image 5=%s; ask 1>3 at 5, ask 1>3 at 6; ; image 5=%[2]s`, showBytes([]byte(strings.Repeat("b", 700))), showBytes(image(600))))

	p = known(t, 1, 3, 0)
	put(t, p, 2, 5, a[0])
	put(t, p, 2, 9, b[1])
	sendPieces(t, p, 3, 7, "c")
	if len(p.member.boxes) != 1 {
		t.Errorf("%d images are awaited; want 1", len(p.member.boxes))
	}
	put(t, p, 2, 5, a[1])
	stands(t, "one that is behind", p, "false 0 7 {0 0}")
	put(t, p, 3, 9, b[0])
	stands(t, "one that is ahead", p, "false 0 9 {0 0}")
	put(t, p, 3, 12, a[0])
	step(t, p, api.Letter{Kind: api.LetLearn, From: 2, To: 1, Slot: 10, Commit: 13, Entries: entries(10, 3)})
	if len(p.member.boxes) > 0 {
		t.Error("pieces are kept of an image that is behind entries")
	}
}

// Pieces that all came, and have another sum, are thrown away: what was right may
// come anew.
func TestPiecesWithAnotherSum(t *testing.T) {
	l := cut(string(image(600)))
	bad := l[0]
	bad.Data = append([]byte("j"), bad.Data[1:]...)
	p := known(t, 1, 3, 0)
	put(t, p, 2, 5, bad)
	put(t, p, 2, 5, l[0])
	put(t, p, 2, 5, l[1])
	stands(t, "a wrong piece", p, "false 0 0 {0 0}")
	if len(p.member.boxes) > 0 {
		t.Error("wrong pieces are kept")
	}
	sendPieces(t, p, 2, 5, string(image(600)))
	stands(t, "right ones", p, "false 0 5 {0 0}")
}

// What was chosen and not told yet is in an image that comes; a lower image that
// was not told yet, too.
func TestImageAheadOfReady(t *testing.T) {
	p, _ := New(1, 3, api.Saved{Index: 1, Image: []byte("i"), Entries: entries(2, 1)})
	step(t, p, api.Letter{Kind: api.LetLearn, From: 2, To: 1, Slot: 3, Commit: 3, Entries: entries(3, 1)})
	sendPieces(t, p, 2, 4, "four")
	step(t, p, api.Letter{Kind: api.LetLearn, From: 2, To: 1, Slot: 5, Commit: 5, Entries: entries(5, 1)})
	sendPieces(t, p, 2, 6, "six")
	step(t, p, api.Letter{Kind: api.LetLearn, From: 2, To: 1, Slot: 7, Commit: 7, Entries: entries(7, 1)})
	ready(t, "images and entries", p, `entry 3="e3", image 4="four", entry 5="e5", image 6="six", entry 7="e7"; ask 1>2 at 5, ask 1>2 at 7; 7="e7"; image 6="six"`)
}

// The greatest slot that is ever known is the last one behind which an acceptor
// can begin: so what was written may be, whatever comes.
func TestTheLastSlot(t *testing.T) {
	s := api.Saved{Index: last - 2}
	p := made(t, 1, 1, s)
	p.Draw()
	for n := range api.MaxVotes + 1 {
		want(t, "Propose", p.Propose([]byte("x")), api.OK)
		if p.Commit() != last-1 {
			t.Fatalf("the proposal %d: the commit is %d; want %d", n, p.Commit(), last-1)
		}
	}
	want(t, "Propose", p.Propose([]byte("x")), api.ErrFull)
	want(t, "what was written", Check(1, 1, together(append(notesOf(s), p.Ready().Notes...))), api.OK)
	p = made(t, 1, 3, api.Saved{Index: last - 2})
	step(t, p, api.Letter{Kind: api.LetLearn, From: 2, To: 1, Slot: last - 1, Commit: last + 5, Entries: entries(last-1, 4)})
	ready(t, "learnt", p, fmt.Sprintf(`entry %d="e%[1]d"; ask 1>2 at %d; %[1]d="e%[1]d"`, last-1, last))
	step(t, p, acceptLetter(bal(1, 2), last, last, "x"))
	stands(t, "heard", p, fmt.Sprintf("false 2 %d {0 0}", last-1))
}
