package peer

import (
	"fmt"
	"math"
	"reflect"
	"strings"
	"testing"

	"purse/api"
)

func bal(round, node int) api.Ballot { return api.Ballot{Round: round, Node: node} }

func vote(slot int, b api.Ballot, value string) api.Vote {
	return api.Vote{Slot: slot, Ballot: b, Value: []byte(value)}
}

// votes is so many votes by one ballot, from a slot on.
func votes(from, count int, b api.Ballot) []api.Vote {
	var l []api.Vote
	for slot := from; slot < from+count; slot++ {
		l = append(l, vote(slot, b, fmt.Sprint("w", slot)))
	}
	return l
}

// entries is so many entries, from a slot on.
func entries(from, count int) []api.Entry {
	var l []api.Entry
	for slot := from; slot < from+count; slot++ {
		l = append(l, api.Entry{Slot: slot, Value: []byte(fmt.Sprint("e", slot))})
	}
	return l
}

func one(slot int, value string) []api.Entry {
	return []api.Entry{{Slot: slot, Value: []byte(value)}}
}

// known is a member that knows so many entries, with all that is read of it.
func known(t testing.TB, node, nodes, count int) *Peer {
	t.Helper()
	return made(t, node, nodes, api.Saved{Entries: entries(1, count)})
}

func made(t testing.TB, node, nodes int, s api.Saved) *Peer {
	t.Helper()
	p, e := New(node, nodes, s)
	if e != api.OK {
		t.Fatalf("New(%d, %d): error %d", node, nodes, e)
	}
	p.Ready()
	return p
}

// leader is the member 1 that leads, of nodes that know so many entries.
func leader(t testing.TB, nodes, count int) *Peer {
	t.Helper()
	p := known(t, 1, nodes, count)
	want(t, "Draw", p.Draw(), api.OK)
	for i := 2; !p.Leads() && i <= nodes; i++ {
		step(t, p, api.Letter{Kind: api.LetPromise, From: i, To: 1, Ballot: bal(1, 1), Slot: count + 1, Commit: count})
	}
	if !p.Leads() {
		t.Fatal("a member with a majority of promises does not lead")
	}
	p.Ready()
	return p
}

func want(t testing.TB, what string, got, e api.Errno) {
	t.Helper()
	if got != e {
		t.Fatalf("%s: error %d; want %d", what, got, e)
	}
}

func step(t testing.TB, p *Peer, l api.Letter) {
	t.Helper()
	want(t, showLetter(l), p.Step(l), api.OK)
}

func ready(t testing.TB, what string, p *Peer, line string) {
	t.Helper()
	if got := show(p.Ready()); got != line {
		t.Errorf("%s: Ready:\n%s\nwant\n%s", what, got, line)
	}
}

// stands holds leads, leader, commit and ballot against a line.
func stands(t testing.TB, what string, p *Peer, line string) {
	t.Helper()
	if got := fmt.Sprint(p.Leads(), " ", p.Leader(), " ", p.Commit(), " ", p.Ballot()); got != line {
		t.Errorf("%s: leads, leader, commit, ballot: %s; want %s", what, got, line)
	}
}

const nothing = "; ; "

func TestExamples(t *testing.T) {
	p := made(t, 1, 1, api.Saved{})
	want(t, "Draw", p.Draw(), api.OK)
	ready(t, "Draw of one", p, "promise {1 1}; ; ")
	stands(t, "one", p, "true 1 0 {1 1}")
	want(t, "Propose", p.Propose([]byte("x")), api.OK)
	ready(t, "Propose of one", p, `vote 1{1 1}"x", entry 1="x"; ; 1="x"`)

	p = made(t, 1, 3, api.Saved{})
	want(t, "Draw", p.Draw(), api.OK)
	ready(t, "Draw of three", p, "promise {1 1}; prepare 1>2 {1 1} at 1, prepare 1>3 {1 1} at 1; ")
	stands(t, "a candidate", p, "false 0 0 {1 1}")
	step(t, p, api.Letter{Kind: api.LetPromise, From: 2, To: 1, Ballot: bal(1, 1), Slot: 1})
	stands(t, "a leader", p, "true 1 0 {1 1}")
	step(t, p, api.Letter{Kind: api.LetPromise, From: 3, To: 1, Ballot: bal(1, 1), Slot: 1})
	ready(t, "all promises", p, nothing)
	want(t, "Propose", p.Propose([]byte("x")), api.OK)
	ready(t, "Propose of three", p, `vote 1{1 1}"x"; accept 1>2 {1 1} at 1 1="x", accept 1>3 {1 1} at 1 1="x"; `)
	step(t, p, api.Letter{Kind: api.LetAccepted, From: 3, To: 1, Ballot: bal(1, 1), Slot: 1})
	ready(t, "one vote", p, `entry 1="x"; ; 1="x"`)
	stands(t, "a vote", p, "true 1 1 {1 1}")

	p = made(t, 2, 3, api.Saved{Promised: bal(2, 3)})
	step(t, p, api.Letter{Kind: api.LetPrepare, From: 1, To: 2, Ballot: bal(1, 1), Slot: 1})
	ready(t, "the second example", p, "; reject 2>1 {2 3}; ")
}

// The limits are the document's: these tests name them by api's names.
func TestLimits(t *testing.T) {
	got := fmt.Sprint(api.MaxValue, api.MaxVotes, api.MaxSend, api.MaxPiece, api.MaxPieces, api.MaxNodes, int(api.ErrLeader), int(api.ErrFull), int(api.ErrLong), int(api.ErrOver))
	if got != "2048 16 4 512 16 5 130 3 22 10" {
		t.Error(got)
	}
}

func TestP13_1Members(t *testing.T) {
	numbers := []int{math.MinInt, -3, -1, 0, 1, 2, 3, 4, 5, 6, 7, 9, 1 << 40, math.MaxInt}
	for _, nodes := range numbers {
		for _, node := range numbers {
			e := api.ErrArg
			if (nodes == 1 || nodes == 3 || nodes == 5) && node >= 1 && node <= nodes {
				e = api.OK
			}
			want(t, fmt.Sprintf("Check(%d, %d)", node, nodes), Check(node, nodes, api.Saved{}), e)
			p, f := New(node, nodes, api.Saved{})
			if f != e || (p == nil) != (e != api.OK) {
				t.Errorf("New(%d, %d): %v, error %d; want %d", node, nodes, p, f, e)
			}
			if e == api.ErrArg {
				want(t, "both errors", Check(node, nodes, api.Saved{Index: -1}), api.ErrArg)
			}
		}
	}
}

// image is so many bytes.
func image(size int) []byte { return []byte(strings.Repeat("i", size)) }

func TestP13_1SavedThatMayBe(t *testing.T) {
	long := strings.Repeat("v", api.MaxValue)
	for what, s := range map[string]api.Saved{
		"nothing":                     {},
		"a promise":                   {Promised: bal(1, 1)},
		"the last node's":             {Promised: bal(1, 3)},
		"the greatest round":          {Promised: bal(math.MaxInt, 2)},
		"an index without an image":   {Index: 1},
		"an image":                    {Index: 1, Image: image(1)},
		"the longest image":           {Index: 7, Image: image(mostImage)},
		"the greatest index":          {Index: last - 1, Image: image(1)},
		"entries":                     {Entries: entries(1, 20)},
		"an entry of no bytes":        {Entries: one(1, "")},
		"the longest entry":           {Entries: one(1, long)},
		"entries behind an image":     {Index: 4, Entries: entries(5, 3)},
		"the last entries":            {Index: last - 3, Entries: entries(last-2, 2)},
		"votes":                       {Promised: bal(2, 1), Votes: votes(1, 16, bal(2, 1))},
		"a vote of no bytes":          {Promised: bal(2, 1), Votes: []api.Vote{vote(16, bal(1, 3), "")}},
		"the longest vote":            {Promised: bal(2, 1), Votes: []api.Vote{vote(1, bal(1, 3), long)}},
		"votes behind entries":        {Promised: bal(2, 1), Entries: entries(1, 2), Votes: votes(3, 16, bal(2, 1))},
		"votes behind an image":       {Promised: bal(2, 1), Index: 2, Votes: votes(3, 16, bal(2, 1))},
		"votes behind both":           {Promised: bal(2, 1), Index: 2, Entries: entries(3, 2), Votes: votes(5, 16, bal(2, 1))},
		"votes behind the last entry": {Promised: bal(2, 1), Index: last - 2, Entries: entries(last-1, 1), Votes: votes(last, 16, bal(2, 1))},
	} {
		want(t, what, Check(2, 3, s), api.OK)
		p, e := New(2, 3, s)
		want(t, what, e, api.OK)
		stands(t, what, p, fmt.Sprintf("false 0 %d {0 0}", s.Index+len(s.Entries)))
		if got := p.member.First(); got != p.Commit()+1 {
			t.Errorf("%s: the acceptor's first slot is %d, the commit %d", what, got, p.Commit())
		}
		line := "; ; "
		for i, x := range s.Entries {
			line += strings.Repeat(", ", min(i, 1)) + showEntry(x)
		}
		if s.Index > 0 {
			line += fmt.Sprintf("; image %d=%s", s.Index, showBytes(s.Image))
		}
		ready(t, what, p, line)
		ready(t, what+", once more", p, nothing)
	}
}

func TestP13_1SavedThatMayNotBe(t *testing.T) {
	long := strings.Repeat("v", api.MaxValue+1)
	for what, s := range map[string]api.Saved{
		"a promise of no node":         {Promised: bal(1, 0)},
		"of a node below":              {Promised: bal(1, -1)},
		"of a node above":              {Promised: bal(1, 4)},
		"of the round 0":               {Promised: bal(0, 1)},
		"of a round below":             {Promised: bal(-1, 1)},
		"an index below":               {Index: -1},
		"the least index":              {Index: math.MinInt},
		"an index without a next slot": {Index: last},
		"an index above":               {Index: last + 1},
		"the greatest int":             {Index: math.MaxInt},
		"an image of nothing":          {Image: image(1)},
		"too long an image":            {Index: 1, Image: image(mostImage + 1)},
		"entries from 0 on":            {Entries: entries(0, 2)},
		"entries from 2 on":            {Entries: entries(2, 2)},
		"entries with a gap":           {Entries: append(entries(1, 1), entries(3, 1)...)},
		"one entry twice":              {Entries: append(entries(1, 1), entries(1, 1)...)},
		"entries that fall":            {Entries: append(entries(2, 1), entries(1, 1)...)},
		"entries within the image":     {Index: 3, Entries: entries(3, 2)},
		"entries not behind it":        {Index: 3, Entries: entries(5, 2)},
		"too long an entry":            {Entries: one(1, long)},
		"the last slot":                {Index: last - 1, Entries: entries(last, 1)},
		"a slot above the last":        {Index: last, Entries: entries(last+1, 1)},
		"votes and no promise":         {Votes: votes(1, 1, bal(1, 1))},
		"votes above the promise":      {Promised: bal(1, 1), Votes: votes(1, 1, bal(1, 2))},
		"votes of no round":            {Promised: bal(1, 1), Votes: votes(1, 1, bal(0, 2))},
		"votes of no node":             {Promised: bal(2, 1), Votes: votes(1, 1, bal(1, 0))},
		"a vote for 0":                 {Promised: bal(2, 1), Votes: votes(0, 1, bal(1, 1))},
		"a vote of an entry":           {Promised: bal(2, 1), Entries: entries(1, 2), Votes: votes(2, 1, bal(1, 1))},
		"a vote of the image":          {Promised: bal(2, 1), Index: 2, Votes: votes(2, 1, bal(1, 1))},
		"a vote too far":               {Promised: bal(2, 1), Votes: votes(17, 1, bal(1, 1))},
		"too far behind entries":       {Promised: bal(2, 1), Index: 1, Entries: entries(2, 1), Votes: votes(19, 1, bal(1, 1))},
		"seventeen votes":              {Promised: bal(2, 1), Votes: votes(1, 17, bal(1, 1))},
		"one vote twice":               {Promised: bal(2, 1), Votes: append(votes(1, 1, bal(1, 1)), votes(1, 1, bal(1, 1))...)},
		"votes that fall":              {Promised: bal(2, 1), Votes: append(votes(2, 1, bal(1, 1)), votes(1, 1, bal(1, 1))...)},
		"too long a vote":              {Promised: bal(2, 1), Votes: []api.Vote{vote(1, bal(1, 1), long)}},
	} {
		want(t, what, Check(2, 3, s), api.ErrForm)
		if p, e := New(2, 3, s); p != nil || e != api.ErrForm {
			t.Errorf("%s: New: %v, error %d", what, p, e)
		}
	}
	want(t, "a promise of the node 4 of 5", Check(2, 5, api.Saved{Promised: bal(1, 4)}), api.OK)
	want(t, "a promise of the node 2 of 1", Check(1, 1, api.Saved{Promised: bal(1, 2)}), api.ErrForm)
}

func TestP13_2Draw(t *testing.T) {
	for _, nodes := range []int{1, 3, 5} {
		for node := 1; node <= nodes; node++ {
			for _, round := range []int{0, 1, 2, 77, math.MaxInt - 1, math.MaxInt} {
				s := api.Saved{Promised: bal(round, nodes)}
				if round == 0 {
					s.Promised = api.Ballot{}
				}
				p, e := made(t, node, nodes, s), api.OK
				if round == math.MaxInt {
					e = api.ErrOver
				}
				what := fmt.Sprintf("Draw of %d of %d behind the round %d", node, nodes, round)
				want(t, what, p.Draw(), e)
				if e != api.OK {
					ready(t, what, p, nothing)
					stands(t, what, p, "false 0 0 {0 0}")
					continue
				}
				stands(t, what, p, fmt.Sprintf("%v %d 0 {%d %d}", nodes == 1, map[bool]int{true: 1}[nodes == 1], round+1, node))
			}
		}
	}
}

// A ballot is seen by a letter of any kind, whether or not it is promised.
func TestP13_2DrawAboveAllThatWasSeen(t *testing.T) {
	for kind := api.LetPrepare; kind <= api.LetPiece; kind++ {
		p := made(t, 1, 3, api.Saved{Promised: bal(4, 2)})
		step(t, p, api.Letter{Kind: kind, From: 3, To: 1, Ballot: bal(9, 2)})
		step(t, p, api.Letter{Kind: kind, From: 2, To: 1, Ballot: bal(8, 3)})
		want(t, "Draw", p.Draw(), api.OK)
		if p.Ballot() != bal(10, 1) {
			t.Errorf("letters of the kind %d: Draw: %v; want {10 1}", kind, p.Ballot())
		}
		step(t, p, api.Letter{Kind: kind, From: 2, To: 1, Ballot: bal(math.MaxInt, 1)})
		want(t, "Draw", p.Draw(), api.ErrOver)
		if p.Ballot() != (api.Ballot{}) || p.Leads() {
			t.Errorf("letters of the kind %d: no ballot above: a candidate by %v", kind, p.Ballot())
		}
	}
}

func TestP13_2DrawOfALeader(t *testing.T) {
	p := leader(t, 3, 2)
	want(t, "Propose", p.Propose([]byte("x")), api.OK)
	p.Ready()
	want(t, "Draw", p.Draw(), api.OK)
	stands(t, "a leader that draws", p, "false 0 2 {2 1}")
	ready(t, "a leader that draws", p, "promise {2 1}; prepare 1>2 {2 1} at 3, prepare 1>3 {2 1} at 3; ")
	want(t, "Propose", p.Propose([]byte("y")), api.ErrLeader)
	step(t, p, api.Letter{Kind: api.LetAccepted, From: 2, To: 1, Ballot: bal(1, 1), Slot: 3})
	ready(t, "a vote by the ballot of then", p, nothing)
	step(t, p, api.Letter{Kind: api.LetPromise, From: 2, To: 1, Ballot: bal(1, 1), Slot: 3, Commit: 2})
	stands(t, "a promise of the ballot of then", p, "false 0 2 {2 1}")
	step(t, p, api.Letter{Kind: api.LetPromise, From: 3, To: 1, Ballot: bal(2, 1), Slot: 3, Commit: 2})
	ready(t, "it proposes its own vote anew", p, `vote 3{2 1}"x"; accept 1>2 {2 1} at 3 commit 2 3="x", accept 1>3 {2 1} at 3 commit 2 3="x"; `)
}

// A leader for which there is no ballot above leads on.
func TestP13_2DrawThatIsRefusedChangesNothing(t *testing.T) {
	make := func() *Peer {
		p := made(t, 1, 3, api.Saved{Promised: bal(math.MaxInt-1, 1)})
		p.Draw()
		step(t, p, api.Letter{Kind: api.LetPromise, From: 2, To: 1, Ballot: bal(math.MaxInt, 1), Slot: 1})
		want(t, "Propose", p.Propose([]byte("x")), api.OK)
		return p
	}
	p := make()
	want(t, "Draw", p.Draw(), api.ErrOver)
	if !p.Leads() || !reflect.DeepEqual(p, make()) {
		t.Error("what is refused has changed something")
	}
}

func TestP13_2Propose(t *testing.T) {
	p := known(t, 1, 3, 0)
	for size, e := range map[int]api.Errno{0: api.ErrLong, 1: api.ErrLeader, api.MaxValue: api.ErrLeader, api.MaxValue + 1: api.ErrLong} {
		want(t, fmt.Sprint("Propose of one that does not lead, ", size), p.Propose(make([]byte, size)), e)
	}
	want(t, "Propose(nil)", p.Propose(nil), api.ErrLong)
	p.Draw()
	p.Ready()
	want(t, "Propose of a candidate", p.Propose([]byte("x")), api.ErrLeader)
	ready(t, "refused", p, nothing)
	for _, size := range []int{1, 2, api.MaxValue} {
		p := leader(t, 1, 0)
		want(t, fmt.Sprint("Propose of ", size), p.Propose(make([]byte, size)), api.OK)
		if r := p.Ready(); len(r.Chosen) != 1 || len(r.Chosen[0].Value) != size {
			t.Errorf("Propose of %d: %s", size, show(r))
		}
	}
}

// MaxVotes slots may be open; with one fewer there is room for one.
func TestP13_2ProposeOfManySlots(t *testing.T) {
	p := leader(t, 3, 5)
	for n := range api.MaxVotes {
		want(t, fmt.Sprint("Propose with open slots: ", n), p.Propose([]byte{byte(n)}), api.OK)
		if r := p.Ready(); len(r.Letters) != 2 || r.Letters[1].Slot != 6+n {
			t.Errorf("the proposal %d: %s", n, show(r))
		}
	}
	want(t, "no room", p.Propose([]byte("x")), api.ErrFull)
	want(t, "no bytes, and no room", p.Propose(nil), api.ErrLong)
	ready(t, "no room", p, nothing)
	for slot := 7; slot <= 21; slot++ {
		step(t, p, api.Letter{Kind: api.LetAccepted, From: 2, To: 1, Ballot: bal(1, 1), Slot: slot})
	}
	want(t, "all but the first are chosen", p.Propose([]byte("x")), api.ErrFull)
	stands(t, "the first is not", p, "true 1 5 {1 1}")
	step(t, p, api.Letter{Kind: api.LetAccepted, From: 3, To: 1, Ballot: bal(1, 1), Slot: 6})
	stands(t, "all are", p, "true 1 21 {1 1}")
	want(t, "room again", p.Propose([]byte("x")), api.OK)
	if r := p.Ready(); r.Letters[0].Slot != 22 || r.Letters[0].Commit != 21 || len(r.Chosen) != 16 {
		t.Error(show(r))
	}
}

// What a new leader finds open counts.
func TestP13_2ProposeBehindWhatWasFound(t *testing.T) {
	p := known(t, 1, 3, 1)
	p.Draw()
	p.Ready()
	step(t, p, api.Letter{Kind: api.LetPromise, From: 2, To: 1, Ballot: bal(1, 1), Slot: 2, Commit: 1, Votes: votes(4, 1, bal(1, 1))})
	ready(t, "found", p, `vote 2{1 1}"", vote 3{1 1}"", vote 4{1 1}"w4"; accept 1>2 {1 1} at 2 commit 1 2="", accept 1>3 {1 1} at 2 commit 1 2="", accept 1>2 {1 1} at 3 commit 1 3="", accept 1>3 {1 1} at 3 commit 1 3="", accept 1>2 {1 1} at 4 commit 1 4="w4", accept 1>3 {1 1} at 4 commit 1 4="w4"; `)
	for n := range 13 {
		want(t, fmt.Sprint("Propose ", n), p.Propose([]byte{byte(n)}), api.OK)
	}
	if r := p.Ready(); r.Letters[0].Slot != 5 || r.Letters[25].Slot != 17 {
		t.Error(show(r))
	}
	want(t, "no room", p.Propose([]byte("x")), api.ErrFull)
}

func wrong(nodes int) map[string]api.Letter {
	l := api.Letter{Kind: api.LetBeat, From: 2, To: 1, Ballot: bal(9, 2), Commit: 3}
	all := map[string]api.Letter{}
	put := func(what string, do func(l *api.Letter)) {
		w := l
		do(&w)
		all[what] = w
	}
	for _, n := range []int{math.MinInt, -1, 0, 2, nodes, nodes + 1, math.MaxInt} {
		put(fmt.Sprint("To ", n), func(l *api.Letter) { l.To = n })
	}
	for _, n := range []int{math.MinInt, -1, 0, 1, nodes + 1, math.MaxInt} {
		put(fmt.Sprint("From ", n), func(l *api.Letter) { l.From = n })
	}
	for _, n := range []int{math.MinInt, -1, 0, 10, 11, math.MaxInt} {
		put(fmt.Sprint("Kind ", n), func(l *api.Letter) { l.Kind = n })
	}
	for _, b := range []api.Ballot{bal(0, 1), bal(1, 0), bal(-1, 1), bal(1, -1), bal(1, nodes+1), bal(math.MaxInt, math.MaxInt), bal(math.MinInt, 1)} {
		put(fmt.Sprint("Ballot ", b), func(l *api.Letter) { l.Ballot = b })
	}
	for kind := api.LetPrepare; kind <= api.LetPiece; kind++ {
		put(fmt.Sprint("votes of the kind ", kind), func(l *api.Letter) { l.Kind, l.Votes = kind, votes(1, api.MaxSend+1, bal(1, 1)) })
		put(fmt.Sprint("entries of the kind ", kind), func(l *api.Letter) { l.Kind, l.Entries = kind, entries(1, api.MaxSend+1) })
	}
	return all
}

func TestP13_3Step(t *testing.T) {
	for _, nodes := range []int{3, 5} {
		for what, l := range wrong(nodes) {
			p := leader(t, nodes, 2)
			want(t, what, p.Step(l), api.ErrArg)
			if !reflect.DeepEqual(p, leader(t, nodes, 2)) {
				t.Errorf("%s: what is refused has changed something", what)
			}
		}
		for kind := api.LetPrepare; kind <= api.LetPiece; kind++ {
			for _, b := range []api.Ballot{{}, bal(1, 1), bal(1, nodes), bal(math.MaxInt, 2)} {
				p := leader(t, nodes, 2)
				step(t, p, api.Letter{Kind: kind, From: nodes, To: 1, Ballot: b, Votes: make([]api.Vote, api.MaxSend), Entries: make([]api.Entry, api.MaxSend)})
			}
		}
	}
	p := known(t, 1, 1, 0)
	for from := -1; from < 3; from++ {
		want(t, "a letter to one alone", p.Step(api.Letter{Kind: api.LetAsk, From: from, To: 1}), api.ErrArg)
	}
}

func TestP13_3Tick(t *testing.T) {
	p := known(t, 1, 3, 2)
	want(t, "Tick", p.Tick(), api.OK)
	ready(t, "Tick of neither", p, nothing)
	p.Draw()
	p.Ready()
	want(t, "Tick", p.Tick(), api.OK)
	ready(t, "Tick of a candidate", p, "; prepare 1>2 {1 1} at 3, prepare 1>3 {1 1} at 3; ")
	p = leader(t, 3, 2)
	want(t, "Tick", p.Tick(), api.OK)
	ready(t, "Tick of a leader", p, "; beat 1>2 {1 1} commit 2, beat 1>3 {1 1} commit 2; ")
	p = leader(t, 1, 2)
	want(t, "Tick", p.Tick(), api.OK)
	ready(t, "Tick of one alone", p, nothing)
}

// At a Tick those that have not voted are told of open slots once more, be they
// chosen or not; others are not.
func TestTickOfALeaderWithOpenSlots(t *testing.T) {
	p := leader(t, 5, 1)
	for _, v := range []string{"x", "y", "z"} {
		want(t, "Propose", p.Propose([]byte(v)), api.OK)
	}
	p.Ready()
	for _, from := range []int{3, 5, 2} {
		step(t, p, api.Letter{Kind: api.LetAccepted, From: from, To: 1, Ballot: bal(1, 1), Slot: 3})
	}
	step(t, p, api.Letter{Kind: api.LetAccepted, From: 4, To: 1, Ballot: bal(1, 1), Slot: 2})
	for _, from := range []int{2, 3, 4, 5} {
		step(t, p, api.Letter{Kind: api.LetAccepted, From: from, To: 1, Ballot: bal(1, 1), Slot: 4})
	}
	ready(t, "votes", p, nothing)
	p.Tick()
	ready(t, "Tick", p, `; beat 1>2 {1 1} commit 1, beat 1>3 {1 1} commit 1, beat 1>4 {1 1} commit 1, beat 1>5 {1 1} commit 1, `+
		`accept 1>2 {1 1} at 2 commit 1 2="x", accept 1>3 {1 1} at 2 commit 1 2="x", accept 1>5 {1 1} at 2 commit 1 2="x", accept 1>4 {1 1} at 3 commit 1 3="y"; `)
	step(t, p, api.Letter{Kind: api.LetAccepted, From: 5, To: 1, Ballot: bal(1, 1), Slot: 2})
	ready(t, "the first is chosen", p, `entry 2="x", entry 3="y", entry 4="z"; ; 2="x", 3="y", 4="z"`)
	p.Tick()
	ready(t, "nothing is open", p, `; beat 1>2 {1 1} commit 4, beat 1>3 {1 1} commit 4, beat 1>4 {1 1} commit 4, beat 1>5 {1 1} commit 4; `)
}

// Votes count once a member, for the ballot and the slot that they name.
func TestAcceptedOfALeader(t *testing.T) {
	p := leader(t, 5, 0)
	want(t, "Propose", p.Propose([]byte("x")), api.OK)
	p.Ready()
	for _, l := range []api.Letter{
		{Kind: api.LetAccepted, From: 2, To: 1, Ballot: bal(1, 1), Slot: 1},
		{Kind: api.LetAccepted, From: 2, To: 1, Ballot: bal(1, 1), Slot: 1},
		{Kind: api.LetAccepted, From: 3, To: 1, Ballot: bal(1, 1), Slot: 2},
		{Kind: api.LetAccepted, From: 3, To: 1, Ballot: bal(1, 1), Slot: 0},
		{Kind: api.LetAccepted, From: 3, To: 1, Slot: 1},
	} {
		step(t, p, l)
		stands(t, showLetter(l), p, "true 1 0 {1 1}")
	}
	ready(t, "two votes", p, nothing)
	step(t, p, api.Letter{Kind: api.LetAccepted, From: 3, To: 1, Ballot: bal(1, 1), Slot: 1})
	ready(t, "three votes", p, `entry 1="x"; ; 1="x"`)
	step(t, p, api.Letter{Kind: api.LetAccepted, From: 4, To: 1, Ballot: bal(1, 1), Slot: 1})
	ready(t, "four votes", p, nothing)
	p = leader(t, 3, 0)
	want(t, "Propose", p.Propose([]byte("x")), api.OK)
	step(t, p, api.Letter{Kind: api.LetAccepted, From: 2, To: 1, Ballot: bal(2, 2), Slot: 1})
	stands(t, "a vote by a greater ballot", p, "false 0 0 {0 0}")
	q := known(t, 1, 3, 0)
	step(t, q, api.Letter{Kind: api.LetAccepted, From: 2, To: 1, Ballot: bal(1, 1), Slot: 1})
	ready(t, "a vote for one that does not lead", q, nothing)
}

// A letter of any kind with a ballot above its own ends a candidate's and a
// leader's turn; one with its own or a lower one does not.
func TestBallotsAboveItsOwn(t *testing.T) {
	for kind := api.LetPrepare; kind <= api.LetPiece; kind++ {
		for _, b := range []api.Ballot{{}, bal(3, 1), bal(3, 3), bal(4, 1), bal(4, 2), bal(4, 3), bal(5, 1), bal(math.MaxInt, 3)} {
			for _, leads := range []bool{false, true} {
				p := made(t, 2, 3, api.Saved{Promised: bal(3, 3)})
				p.Draw()
				if leads {
					step(t, p, api.Letter{Kind: api.LetPromise, From: 3, To: 2, Ballot: bal(4, 2), Slot: 1})
				}
				what := fmt.Sprintf("kind %d, ballot %v, leads %v", kind, b, leads)
				step(t, p, api.Letter{Kind: kind, From: 1, To: 2, Ballot: b, Slot: 1, Commit: 1})
				above := b.Round > 4 || b == bal(4, 3)
				own, leadsNow := bal(4, 2), leads
				if above {
					own, leadsNow = api.Ballot{}, false
				}
				// A promise makes a candidate of three a leader, if it is one for its
				// ballot, and does not tell a commit ahead of its own.
				if p.Ballot() != own || p.Leads() != leadsNow {
					t.Errorf("%s: ballot %v, leads %v; want %v, %v", what, p.Ballot(), p.Leads(), own, leadsNow)
				}
				if above {
					want(t, what, p.Propose([]byte("x")), api.ErrLeader)
					p.Ready()
					p.Tick()
					ready(t, what, p, nothing)
				}
			}
		}
	}
}

func TestP13_6Leader(t *testing.T) {
	for _, kind := range []int{api.LetAccept, api.LetBeat} {
		p := made(t, 1, 5, api.Saved{Promised: bal(3, 3)})
		hear := func(b api.Ballot, from, leader int) {
			t.Helper()
			step(t, p, api.Letter{Kind: kind, From: from, To: 1, Ballot: b, Slot: 40})
			if p.Leader() != leader {
				t.Errorf("kind %d: a letter by %v: Leader is %d; want %d", kind, b, p.Leader(), leader)
			}
		}
		hear(api.Ballot{}, 2, 0)
		hear(bal(2, 5), 5, 0)
		hear(bal(3, 2), 2, 0)
		hear(bal(3, 3), 3, 3)
		hear(bal(3, 2), 2, 3)
		hear(bal(5, 2), 2, 2)
		hear(bal(4, 5), 5, 2)
		hear(bal(5, 4), 3, 4)
		step(t, p, api.Letter{Kind: api.LetPrepare, From: 5, To: 1, Ballot: bal(5, 4), Slot: 1})
		stands(t, "a promise of the same", p, "false 4 0 {0 0}")
		step(t, p, api.Letter{Kind: api.LetPrepare, From: 5, To: 1, Ballot: bal(5, 5), Slot: 1})
		stands(t, "a promise above", p, "false 0 0 {0 0}")
		hear(bal(5, 4), 4, 0)
		hear(bal(6, 2), 2, 2)
		p.Draw()
		stands(t, "a candidate", p, "false 0 0 {7 1}")
	}
	p := known(t, 1, 3, 0)
	for _, kind := range []int{api.LetPrepare, api.LetPromise, api.LetAccepted, api.LetReject, api.LetAsk, api.LetLearn, api.LetPiece} {
		step(t, p, api.Letter{Kind: kind, From: 2, To: 1, Ballot: bal(1, 2), Slot: 1})
		if p.Leader() != 0 {
			t.Errorf("kind %d: Leader is %d", kind, p.Leader())
		}
	}
}

// Beats promise nothing.
func TestBeatPromisesNothing(t *testing.T) {
	p := known(t, 1, 3, 0)
	step(t, p, api.Letter{Kind: api.LetBeat, From: 3, To: 1, Ballot: bal(7, 3)})
	ready(t, "a beat", p, nothing)
	step(t, p, api.Letter{Kind: api.LetPrepare, From: 2, To: 1, Ballot: bal(1, 2), Slot: 1})
	ready(t, "a lower ballot", p, "promise {1 2}; promise 1>2 {1 2} at 1; ")
	step(t, p, api.Letter{Kind: api.LetBeat, From: 3, To: 1, Ballot: bal(1, 1), Commit: 5})
	ready(t, "a beat below", p, nothing)
}

func TestNil(t *testing.T) {
	var p *Peer
	want(t, "Draw", p.Draw(), api.ErrNil)
	want(t, "Propose", p.Propose(nil), api.ErrNil)
	want(t, "Propose", p.Propose([]byte("x")), api.ErrNil)
	want(t, "Step", p.Step(api.Letter{}), api.ErrNil)
	want(t, "Step", p.Step(api.Letter{Kind: api.LetAsk, From: 2, To: 1}), api.ErrNil)
	want(t, "Tick", p.Tick(), api.ErrNil)
	want(t, "Compact", p.Compact(0, nil), api.ErrNil)
	want(t, "Compact", p.Compact(1, image(1)), api.ErrNil)
	ready(t, "nil", p, nothing)
	stands(t, "nil", p, "false 0 0 {0 0}")
}

func TestP13_5Compact(t *testing.T) {
	for _, index := range []int{math.MinInt, -1, 0, 1, 2, 3, 4, 5, 6, last, math.MaxInt} {
		p := made(t, 1, 3, api.Saved{Index: 2, Image: image(3), Entries: entries(3, 3)})
		e := api.ErrArg
		if index >= 3 && index <= 5 {
			e = api.OK
		}
		want(t, fmt.Sprint("Compact at ", index), p.Compact(index, []byte("new")), e)
		stands(t, "Compact", p, "false 0 5 {0 0}")
		if e != api.OK {
			if !reflect.DeepEqual(p, made(t, 1, 3, api.Saved{Index: 2, Image: image(3), Entries: entries(3, 3)})) {
				t.Errorf("Compact at %d: what is refused has changed something", index)
			}
			continue
		}
		ready(t, "Compact", p, fmt.Sprintf("image %d=\"new\"; ; ", index))
		for slot := 1; slot <= 7; slot++ {
			step(t, p, api.Letter{Kind: api.LetAsk, From: 2, To: 1, Slot: slot})
			line := fmt.Sprintf("; piece 1>2 at %d 0 of 1 \"new\"; ", index)
			if slot > index {
				line = fmt.Sprintf("; learn 1>2 at %d commit 5", slot)
				for at := slot; at <= 5; at++ {
					line += fmt.Sprintf(" %d=\"e%d\"", at, at)
				}
				line += "; "
			}
			ready(t, fmt.Sprintf("asked for %d behind Compact at %d", slot, index), p, line)
		}
		want(t, "Compact once more", p.Compact(index, []byte("new")), api.ErrArg)
	}
	for _, size := range []int{0, 1, mostImage - 1, mostImage, mostImage + 1} {
		p := known(t, 1, 3, 2)
		e := api.OK
		if size > mostImage {
			e = api.ErrArg
		}
		want(t, fmt.Sprint("an image of ", size), p.Compact(1, image(size)), e)
	}
	want(t, "of one that knows nothing", known(t, 1, 3, 0).Compact(1, nil), api.ErrArg)
	want(t, "of one that knows nothing", known(t, 1, 3, 0).Compact(0, nil), api.ErrArg)
}

// What Compact leaves of a Ready that was not told yet.
func TestP13_5CompactAheadOfReady(t *testing.T) {
	p, _ := New(1, 3, api.Saved{Index: 2, Image: image(3), Entries: entries(3, 2)})
	want(t, "Compact", p.Compact(3, []byte("new")), api.OK)
	ready(t, "the first Ready", p, `image 3="new"; ; 3="e3", 4="e4"; image 2="iii"`)
	step(t, p, api.Letter{Kind: api.LetLearn, From: 2, To: 1, Slot: 5, Commit: 5, Entries: entries(5, 1)})
	want(t, "Compact", p.Compact(5, nil), api.OK)
	ready(t, "learnt and compacted", p, `entry 5="e5", image 5=""; ; 5="e5"`)
	sendPieces(t, p, 2, 8, "their image")
	step(t, p, api.Letter{Kind: api.LetLearn, From: 2, To: 1, Slot: 9, Commit: 9, Entries: entries(9, 1)})
	want(t, "Compact", p.Compact(9, []byte("mine")), api.OK)
	ready(t, "one of others, and one of its own", p, `image 8="their image", entry 9="e9", image 9="mine"; ask 1>2 at 9; 9="e9"; image 8="their image"`)
}

// sendPieces lets all pieces of an image come.
func sendPieces(t testing.TB, p *Peer, from, slot int, image string) {
	t.Helper()
	for _, x := range cut(image) {
		step(t, p, api.Letter{Kind: api.LetPiece, From: from, To: p.member.node, Slot: slot, Piece: x})
	}
}

// The errors in their order: what is named first is answered.
func TestOrderOfErrors(t *testing.T) {
	want(t, "ErrArg ahead of ErrForm", Check(0, 2, api.Saved{Image: image(1)}), api.ErrArg)
	p := leader(t, 3, 0)
	for n := range api.MaxVotes {
		p.Propose([]byte{byte(n)})
	}
	want(t, "ErrLong ahead of ErrFull", p.Propose(make([]byte, api.MaxValue+1)), api.ErrLong)
	want(t, "ErrLong ahead of ErrLeader", known(t, 1, 3, 0).Propose(nil), api.ErrLong)
}

func TestP13_4NothingIsWrittenTwice(t *testing.T) {
	s := api.Saved{Promised: bal(2, 2), Votes: votes(1, 2, bal(2, 2))}
	p := made(t, 1, 3, s)
	accept := func(slot int, b api.Ballot, value, line string) {
		t.Helper()
		step(t, p, api.Letter{Kind: api.LetAccept, From: 2, To: 1, Ballot: b, Slot: slot, Entries: one(slot, value)})
		ready(t, fmt.Sprintf("a vote for %d by %v", slot, b), p, line)
	}
	step(t, p, api.Letter{Kind: api.LetPrepare, From: 2, To: 1, Ballot: bal(2, 2), Slot: 2})
	ready(t, "a promise that was saved", p, `; promise 1>2 {2 2} at 2 vote 2{2 2}"w2"; `)
	accept(2, bal(2, 2), "w2", "; accepted 1>2 {2 2} at 2; ")
	accept(3, bal(2, 2), "w2", `vote 3{2 2}"w2"; accepted 1>2 {2 2} at 3; `)
	accept(3, bal(2, 2), "w2", "; accepted 1>2 {2 2} at 3; ")
	accept(3, bal(2, 2), "", `vote 3{2 2}""; accepted 1>2 {2 2} at 3; `)
	accept(3, bal(2, 3), "", `vote 3{2 3}""; accepted 1>2 {2 3} at 3; `)
	step(t, p, api.Letter{Kind: api.LetPrepare, From: 3, To: 1, Ballot: bal(2, 3), Slot: 3})
	ready(t, "a promise that a vote has written", p, `; promise 1>3 {2 3} at 3 vote 3{2 3}""; `)
	for range 2 {
		step(t, p, api.Letter{Kind: api.LetPrepare, From: 3, To: 1, Ballot: bal(3, 3), Slot: 3})
	}
	ready(t, "a promise twice, ahead of one Ready", p, `promise {3 3}; promise 1>3 {3 3} at 3 vote 3{2 3}"", promise 1>3 {3 3} at 3 vote 3{2 3}""; `)
	for range 2 {
		step(t, p, api.Letter{Kind: api.LetAccept, From: 3, To: 1, Ballot: bal(3, 3), Slot: 4, Entries: one(4, "x")})
	}
	ready(t, "a vote twice, ahead of one Ready", p, `vote 4{3 3}"x"; accepted 1>3 {3 3} at 4, accepted 1>3 {3 3} at 4; `)
}

// Two kinds of letters carry no list, whoever asks; fields that are not named are
// zero: show tells all others.
func TestP13_4WhatGoesTogether(t *testing.T) {
	p := known(t, 1, 3, 0)
	step(t, p, api.Letter{Kind: api.LetAccept, From: 2, To: 1, Ballot: bal(1, 2), Slot: 1, Entries: one(1, "x")})
	step(t, p, api.Letter{Kind: api.LetBeat, From: 2, To: 1, Ballot: bal(1, 2), Commit: 1})
	ready(t, "a vote, and that it is chosen", p, `vote 1{1 2}"x", entry 1="x"; accepted 1>2 {1 2} at 1; 1="x"`)
	if len(p.member.Votes()) > 0 || p.member.First() != 2 {
		t.Error("a vote is kept for a slot that is chosen")
	}
}
