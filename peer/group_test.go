package peer

import (
	"crypto/sha256"
	"fmt"
	"math/rand"
	"slices"
	"strings"
	"testing"

	"purse/api"
)

// together is notes put together, by the words of P13.7.
func together(notes []api.Note) api.Saved {
	var s api.Saved
	above := func(b api.Ballot) bool {
		return b.Round > s.Promised.Round || b.Round == s.Promised.Round && b.Node > s.Promised.Node
	}
	votes := map[int]api.Vote{}
	for _, n := range notes {
		end := s.Index + len(s.Entries)
		switch n.Kind {
		case api.NotePromise:
			s.Promised = n.Ballot
		case api.NoteVote:
			if above(n.Vote.Ballot) {
				s.Promised = n.Vote.Ballot
			}
			votes[n.Vote.Slot] = n.Vote
		case api.NoteEntry:
			if n.Entry.Slot == end+1 {
				s.Entries = append(s.Entries, n.Entry)
			}
		case api.NoteImage:
			s.Index, s.Image = n.Entry.Slot, n.Entry.Value
			s.Entries = slices.DeleteFunc(slices.Clone(s.Entries), func(e api.Entry) bool { return e.Slot <= s.Index })
		}
	}
	for slot := s.Index + len(s.Entries) + 1; slot <= s.Index+len(s.Entries)+api.MaxVotes; slot++ {
		if v, is := votes[slot]; is {
			s.Votes = append(s.Votes, v)
			delete(votes, slot)
		}
	}
	for slot, v := range votes {
		if slot > s.Index+len(s.Entries) {
			s.Votes = append(s.Votes, v) // too far: Check is to tell it
		}
	}
	return s
}

// seat is a place of a group: who sits there, and what was written down there.
type seat struct {
	p     *twin // nil: it is down
	notes []api.Note
	next  int  // the slot that is to be told as chosen next
	fresh bool // the next Ready is the first one behind New
	told  map[string]bool
}

// group is seats and the letters under way among them, and what is known of the
// whole.
type group struct {
	t        *testing.T
	what     string
	r        *rand.Rand
	seats    []*seat // by their nodes, from 1 on
	post     []api.Letter
	known    []string // the values of the slots from 1 on
	proposed map[string]bool
	count    map[string]int
}

func newGroup(t *testing.T, what string, nodes int, r *rand.Rand) *group {
	t.Helper()
	g := &group{t: t, what: what, r: r, seats: make([]*seat, nodes+1), proposed: map[string]bool{}, count: map[string]int{}}
	for i := 1; i <= nodes; i++ {
		g.seats[i] = &seat{}
		g.start(i)
	}
	return g
}

func (g *group) fail(form string, a ...any) {
	g.t.Helper()
	g.t.Fatalf("%s: %s", g.what, fmt.Sprintf(form, a...))
}

// start lets the member i be up with what was written down.
func (g *group) start(i int) {
	g.t.Helper()
	s := g.seats[i]
	p, e := newTwin(g.t, g.what, i, len(g.seats)-1, together(s.notes))
	if e != api.OK {
		g.fail("P13.7: member %d: New with what was written: error %d", i, e)
	}
	s.p, s.fresh, s.next = p, true, 1
	s.told = map[string]bool{}
	for _, n := range s.notes {
		s.write(n)
	}
}

// fall lets the member i be down.
func (g *group) fall(i int) {
	g.seats[i].p = nil
	g.count["falls"]++
}

// write has what a note tells, for P13.4.
func (s *seat) write(n api.Note) {
	switch n.Kind {
	case api.NotePromise:
		s.told[fmt.Sprint("promise", n.Ballot)] = true
	case api.NoteVote:
		s.told[fmt.Sprint("promise", n.Vote.Ballot)] = true
		s.told[fmt.Sprint("vote", n.Vote.Slot, n.Vote.Ballot)] = true
		s.told[fmt.Sprintf("vote %d %v %q", n.Vote.Slot, n.Vote.Ballot, n.Vote.Value)] = true
	}
}

// leansOn is what a letter tells of promises and votes.
func leansOn(l api.Letter) []string {
	var some []string
	switch l.Kind {
	case api.LetPrepare, api.LetPromise, api.LetReject, api.LetBeat, api.LetAccept, api.LetAccepted:
		some = append(some, fmt.Sprint("promise", l.Ballot))
	}
	for _, v := range l.Votes {
		some = append(some, fmt.Sprintf("vote %d %v %q", v.Slot, v.Ballot, v.Value))
	}
	switch l.Kind {
	case api.LetAccepted:
		some = append(some, fmt.Sprint("vote", l.Slot, l.Ballot))
	case api.LetAccept:
		some = append(some, fmt.Sprintf("vote %d %v %q", l.Slot, l.Ballot, l.Entries[0].Value))
	}
	return some
}

// learnt takes what a member tells as chosen.
func (g *group) learnt(i int, e api.Entry) {
	s := g.seats[i]
	if e.Slot != s.next {
		g.fail("P13.8: member %d tells the slot %d behind %d", i, e.Slot, s.next-1)
	}
	s.next++
	if len(e.Value) > 0 && !g.proposed[string(e.Value)] {
		g.fail("P13.8: %q at %d was not proposed", e.Value, e.Slot)
	}
	if e.Slot > len(g.known)+1 {
		g.fail("P13.8: member %d tells the slot %d; nobody has told %d", i, e.Slot, e.Slot-1)
	}
	if e.Slot == len(g.known)+1 {
		g.known = append(g.known, string(e.Value))
	}
	if g.known[e.Slot-1] != string(e.Value) {
		g.fail("P13.8: member %d: the slot %d has %q and %q", i, e.Slot, e.Value, g.known[e.Slot-1])
	}
}

// imageOf is an image of the first values: it hangs on all of them, and has none
// to several pieces.
func imageOf(known []string) []byte {
	sum := sha256.Sum256([]byte(strings.Join(known, "|")))
	return []byte(strings.Repeat(string(sum[:]), len(known)*7%90))
}

// read takes what the member i wants done; of its notes it writes so many, and
// falls then, if these are not all.
func (g *group) read(i, most int) {
	g.t.Helper()
	s := g.seats[i]
	r, again := s.p.Ready(), s.p.Ready()
	if show(again) != show(api.Ready{}) {
		g.fail("P13.4: member %d: Ready once more: %s", i, show(again))
	}
	for at, n := range r.Notes {
		if at == most {
			g.fall(i)
			g.count["torn"]++
			return
		}
		if n.Group != 0 || n.Kind < api.NotePromise || n.Kind > api.NoteImage {
			g.fail("P13.4: member %d: a note %+v", i, n)
		}
		if n.Kind == api.NoteVote && s.told[fmt.Sprintf("vote %d %v %q", n.Vote.Slot, n.Vote.Ballot, n.Vote.Value)] || n.Kind == api.NotePromise && s.told[fmt.Sprint("promise", n.Ballot)] {
			g.fail("P13.4: member %d: written already: %+v", i, n)
		}
		s.notes = append(s.notes, n)
		s.write(n)
		if e := Check(i, len(g.seats)-1, together(s.notes)); e != api.OK {
			g.fail("P13.7: member %d: behind the note %+v: error %d", i, n, e)
		}
	}
	for _, l := range r.Letters {
		for _, what := range leansOn(l) {
			if !s.told[what] {
				g.fail("P13.4: member %d: the letter %s tells of %s, which is not written", i, showLetter(l), what)
			}
		}
		g.count[fmt.Sprint("letter", l.Kind)]++
	}
	g.told(i, r)
	g.post = append(g.post, r.Letters...)
}

// told takes the chosen entries, and the image, of a Ready of the member i.
func (g *group) told(i int, r api.Ready) {
	g.t.Helper()
	s := g.seats[i]
	if r.Index > 0 {
		if r.Index < s.next {
			g.fail("P13.8: member %d: an image up to %d behind %d", i, r.Index, s.next-1)
		}
		if r.Index > len(g.known) || string(imageOf(g.known[:r.Index])) != string(r.Image) {
			g.fail("P13.8: member %d: an image up to %d that is not theirs", i, r.Index)
		}
		s.next = r.Index + 1
		if !s.fresh {
			g.count["images"]++
		}
	}
	for _, e := range r.Chosen {
		g.learnt(i, e)
		if !s.fresh && !slices.ContainsFunc(r.Notes, func(n api.Note) bool {
			return n.Kind == api.NoteEntry && n.Entry.Slot == e.Slot && string(n.Entry.Value) == string(e.Value)
		}) {
			g.fail("P13.4: member %d: no note of the chosen %d", i, e.Slot)
		}
	}
	if r.Index > 0 && !s.fresh && !slices.ContainsFunc(r.Notes, func(n api.Note) bool {
		return n.Kind == api.NoteImage && n.Entry.Slot == r.Index && string(n.Entry.Value) == string(r.Image)
	}) {
		g.fail("P13.4: member %d: no note of the image %d", i, r.Index)
	}
	s.fresh = false
	if s.p.Commit() != s.next-1 {
		g.fail("P13.4: member %d: Commit is %d, and it has told up to %d", i, s.p.Commit(), s.next-1)
	}
}

// all is a bound above all notes of a Ready.
const all = 1 << 30

// readAll takes what all that are up want done.
func (g *group) readAll() {
	g.t.Helper()
	for i := range g.seats {
		if i > 0 && g.seats[i].p != nil {
			g.read(i, all)
		}
	}
}

// deliver lets the letter at a place come.
func (g *group) deliver(at int) int {
	l := g.post[at]
	g.post = slices.Delete(g.post, at, at+1)
	if g.seats[l.To].p == nil {
		return 0
	}
	was := g.seats[l.To].p.Commit()
	if e := g.seats[l.To].p.Step(l); e != api.OK {
		g.fail("P13.3: Step of %s: error %d", showLetter(l), e)
	}
	if now := g.seats[l.To].p.Commit(); now < was {
		g.fail("P13.8: the commit of member %d falls from %d to %d", l.To, was, now)
	}
	return l.To
}

// round lets all letters come, in the order in which they were sent, and those
// that come of them; then all that are up tick.
func (g *group) round() {
	g.t.Helper()
	g.readAll()
	for n := 0; len(g.post) > 0; n++ {
		if n > 100_000 {
			g.fail("P13.9: letters without an end")
		}
		if i := g.deliver(0); i > 0 {
			g.read(i, all)
		}
	}
	for i := range g.seats {
		if i > 0 && g.seats[i].p != nil {
			g.seats[i].p.Tick()
		}
	}
	g.readAll()
}

// up is those that are up.
func (g *group) up() []int {
	var some []int
	for i := range g.seats {
		if i > 0 && g.seats[i].p != nil {
			some = append(some, i)
		}
	}
	return some
}

// propose lets who leads propose something new.
func (g *group) propose(i, size int) api.Errno {
	value := []byte(fmt.Sprint("v", len(g.proposed), strings.Repeat("-", size)))
	e := g.seats[i].p.Propose(value)
	if e == api.OK {
		g.proposed[string(value)] = true
	}
	return e
}

// compact lets the member i have an image of what it has told.
func (g *group) compact(i, index int) {
	p := g.seats[i].p
	if index <= p.member.index || index > p.Commit() || index > len(g.known) {
		return
	}
	if e := p.Compact(index, imageOf(g.known[:index])); e != api.OK {
		g.fail("P13.5: Compact(%d): error %d", index, e)
	}
	g.count["compacts"]++
}

// calm is P13.9, with the member i that draws.
func (g *group) calm(i int) {
	g.t.Helper()
	if e := g.seats[i].p.Draw(); e != api.OK {
		g.fail("P13.9: Draw: error %d", e)
	}
	g.round()
	g.seats[i].p.Draw()
	for range 5 {
		g.round()
	}
	if !g.seats[i].p.Leads() {
		g.fail("P13.9: behind six rounds the member %d does not lead; up are %v", i, g.up())
	}
	known := len(g.known)
	for range g.r.Intn(5) + 1 {
		if e := g.propose(i, 0); e != api.OK {
			g.fail("P13.9: Propose: error %d", e)
		}
		known++
	}
	for range 3 {
		g.round()
	}
	for _, n := range g.up() {
		p := g.seats[n].p
		if p.Commit() < known || p.Leader() != i {
			g.fail("P13.9: three more rounds: member %d: commit %d, leader %d; want %d at least, by %d", n, p.Commit(), p.Leader(), known, i)
		}
	}
}
