package peer

import (
	"bytes"
	"fmt"
	"math"
	"math/rand"
	"testing"

	"purse/api"
)

// hand writes letters, and what was saved, by hand: mostly such as may be, along
// the edges; now and then others.
type hand struct {
	r           *rand.Rand
	node, nodes int
}

// rare is true once in so many times.
func (h hand) rare(n int) bool { return h.r.Intn(n) == 0 }

func (h hand) value() []byte {
	switch k := h.r.Intn(200); {
	case k == 0:
		return make([]byte, api.MaxValue)
	case k == 1:
		return make([]byte, api.MaxValue+1)
	case k < 30:
		return nil
	}
	return []byte{byte('a' + h.r.Intn(3))}
}

// ballot is mostly one of those that the member knows of, or next to them.
func (h hand) ballot(w *twin) api.Ballot {
	b := []api.Ballot{w.Ballot(), w.Ballot(), w.q.promised, w.q.seen, w.q.heard, {}}[h.r.Intn(6)]
	switch k := h.r.Intn(60); {
	case k < 4:
		b.Round++
		b.Node = 1 + h.r.Intn(h.nodes)
	case k < 8:
		b.Node = 1 + h.r.Intn(h.nodes)
	case k < 11:
		b.Round--
	case k == 11:
		b = []api.Ballot{{Round: 1}, {Node: 1}, {Round: -1, Node: 1}, {Round: 1, Node: -1}, {Round: 1, Node: h.nodes + 1}, {Round: math.MinInt, Node: 1}}[h.r.Intn(6)]
	case k == 12 && h.rare(5):
		b = api.Ballot{Round: math.MaxInt - h.r.Intn(2), Node: 1 + h.r.Intn(h.nodes)}
	}
	return b
}

// slot is mostly one near the commit.
func (h hand) slot(w *twin) int {
	switch k := h.r.Intn(100); {
	case k == 0:
		return []int{math.MinInt, -1, 0, 1, last - 1, last, last + 1, math.MaxInt}[h.r.Intn(8)]
	case k < 10:
		return w.Commit() + api.MaxVotes + h.r.Intn(3) - 1
	case k < 60:
		return w.Commit() + 1
	}
	return w.Commit() - 2 + h.r.Intn(8)
}

func (h hand) votes(w *twin, from int) []api.Vote {
	var l []api.Vote
	n := []int{0, 0, 0, 1, 2, 3, 4, 4, 4}[h.r.Intn(9)]
	if h.rare(60) {
		n = api.MaxSend + 1
	}
	for range n {
		b := api.Ballot{Round: 1 + h.r.Intn(2), Node: 1 + h.r.Intn(h.nodes)}
		if h.rare(60) {
			b = h.ballot(w)
		}
		l = append(l, api.Vote{Slot: from, Ballot: b, Value: h.value()})
		from += 1 + h.r.Intn(6)/5
		if h.rare(60) {
			from = h.slot(w)
		}
	}
	return l
}

func (h hand) entries(w *twin, from int) []api.Entry {
	var l []api.Entry
	n := 1 + h.r.Intn(4)
	if h.rare(40) {
		n = api.MaxSend + 1
	}
	for range n {
		l = append(l, api.Entry{Slot: from, Value: h.value()})
		from++
		if h.rare(30) {
			from = h.slot(w)
		}
	}
	return l
}

// piece is one of an image that hangs on its slot, or of another one.
func (h hand) piece(slot int) api.Piece {
	size := []int{0, 1, 512, 513, 1024, 1100}[(slot%6+6)%6]
	l := cut(string(bytes.Repeat([]byte{byte(slot), byte(h.r.Intn(20) / 19)}, size/2+1)[:size]))
	p := l[h.r.Intn(len(l))]
	if h.rare(30) {
		p = api.Piece{At: h.r.Intn(3) - 1, Of: h.r.Intn(4), Sum: p.Sum, Data: p.Data}
	}
	if h.rare(30) && len(p.Data) > 0 {
		p.Data[0]++
	}
	return p
}

func (h hand) letter(w *twin) api.Letter {
	l := api.Letter{Kind: 1 + h.r.Intn(9), From: 1 + h.r.Intn(h.nodes), To: h.node, Ballot: h.ballot(w), Slot: h.slot(w), Commit: w.Commit()}
	if l.From == h.node && !h.rare(20) {
		l.From = 1 + h.node%h.nodes
	}
	if h.rare(100) {
		l.Kind = []int{math.MinInt, -1, 0, 10, 11, math.MaxInt}[h.r.Intn(6)]
	}
	if h.rare(100) {
		l.From = []int{-1, 0, h.nodes + 1, math.MinInt, math.MaxInt}[h.r.Intn(5)]
	}
	if h.rare(100) {
		l.To = h.r.Intn(8) - 1
	}
	if h.rare(3) {
		l.Commit = h.slot(w)
	}
	if h.rare(30) {
		l.Commit = h.slot(w) - 20
	}
	switch {
	case l.Kind == api.LetPromise || h.rare(30):
		l.Votes = h.votes(w, l.Slot+h.r.Intn(2))
		if from, lacks := w.q.lack[l.From]; w.q.candidate && lacks && !h.rare(6) {
			l.Ballot, l.Slot, l.Votes = w.Ballot(), from, h.votes(w, from)
		}
	case l.Kind == api.LetAccept && !h.rare(20):
		l.Entries = []api.Entry{{Slot: l.Slot, Value: h.value()}}
	case l.Kind == api.LetAccept || l.Kind == api.LetLearn || h.rare(30):
		l.Entries = h.entries(w, l.Slot)
	case l.Kind == api.LetPiece || h.rare(30):
		l.Slot += h.r.Intn(3)
		l.Piece = h.piece(l.Slot)
	}
	return l
}

// saved is mostly what may be.
func (h hand) saved() api.Saved {
	s := api.Saved{Promised: api.Ballot{Round: h.r.Intn(3), Node: 1 + h.r.Intn(h.nodes)}, Index: h.r.Intn(4)}
	if s.Promised.Round == 0 {
		s.Promised = api.Ballot{}
	}
	if h.rare(6) {
		s.Index = last - 1 - h.r.Intn(25)
	}
	if h.rare(50) {
		s.Index = []int{math.MinInt, -1, last - 1, last, last + 1, math.MaxInt}[h.r.Intn(6)]
	}
	if s.Index != 0 || h.rare(30) {
		s.Image = make([]byte, []int{0, 1, 600}[h.r.Intn(3)])
	}
	if h.rare(60) {
		s.Image = make([]byte, mostImage+h.r.Intn(2))
	}
	slot := s.Index + 1
	for range h.r.Intn(5) {
		s.Entries = append(s.Entries, api.Entry{Slot: slot, Value: h.value()})
		slot += 1 + h.r.Intn(40)/39
	}
	slot += h.r.Intn(3)
	for range h.r.Intn(20) {
		b := api.Ballot{Round: 1 + h.r.Intn(2), Node: 1 + h.r.Intn(h.nodes+h.r.Intn(30)/29)}
		if below(s.Promised, b) && !h.rare(30) {
			break
		}
		s.Votes = append(s.Votes, api.Vote{Slot: slot, Ballot: b, Value: h.value()})
		slot += 1 + h.r.Intn(8)/7
		if h.rare(60) {
			slot += h.r.Intn(20) - 10
		}
	}
	return s
}

// play does one thing by hand to a member and its plain twin.
func (h hand) play(w *twin) {
	w.t.Helper()
	switch k := h.r.Intn(100); {
	case k < 3:
		w.Draw()
	case k < 12:
		w.Propose(h.value())
	case k < 16:
		w.Tick()
	case k < 19:
		w.Compact(w.Commit()-h.r.Intn(4)+h.r.Intn(8)/7, make([]byte, []int{0, 1, 512, 700, mostImage, mostImage + 1}[h.r.Intn(6)]))
	default:
		w.Step(h.letter(w))
	}
}

// Long runs by hand of one member: all that it answers is what a plain one does;
// and what was written may always be.
func TestP13RunsByHandAgainstPlainWords(t *testing.T) {
	count := map[string]int{}
	for seed := range 600 {
		r := rand.New(rand.NewSource(int64(seed)))
		nodes := []int{3, 5, 3, 5, 1}[seed%5]
		h := hand{r: r, nodes: nodes, node: 1 + r.Intn(nodes)}
		s := h.saved()
		w, e := newTwin(t, fmt.Sprint("run ", seed), h.node, nodes, s)
		count[fmt.Sprint("New ", e)]++
		if e != api.OK {
			continue
		}
		notes := notesOf(s)
		for at := range 400 {
			w.what = fmt.Sprintf("run %d, step %d", seed, at)
			h.play(w)
			if w.Leads() {
				count["leads"]++
			}
			if r.Intn(3) == 0 {
				rd := w.Ready()
				tally(count, rd)
				notes = append(notes, rd.Notes...)
				s := together(notes)
				if e := Check(h.node, nodes, s); e != api.OK || s.Index+len(s.Entries) != w.Commit() {
					t.Fatalf("%s: P13.7: Check of what was written: error %d, commit %d; want %d", w.what, e, s.Index+len(s.Entries), w.Commit())
				}
			}
		}
	}
	for _, what := range []string{"New 0", "New 21", "leads", "note1", "note2", "note3", "note4", "image", "letter1", "letter2", "letter3", "letter4", "letter5", "letter6", "letter7", "letter8", "letter9"} {
		if count[what] < 50 {
			t.Errorf("just %d times %s: the runs don't go along the edges", count[what], what)
		}
	}
}

// notesOf is notes that say what was saved.
func notesOf(s api.Saved) []api.Note {
	var l []api.Note
	if s.Index > 0 {
		l = append(l, api.Note{Kind: api.NoteImage, Entry: api.Entry{Slot: s.Index, Value: s.Image}})
	}
	for _, e := range s.Entries {
		l = append(l, api.Note{Kind: api.NoteEntry, Entry: e})
	}
	for _, v := range s.Votes {
		l = append(l, api.Note{Kind: api.NoteVote, Vote: v})
	}
	return append(l, api.Note{Kind: api.NotePromise, Ballot: s.Promised})
}

// tally counts what a Ready has.
func tally(count map[string]int, r api.Ready) {
	for _, n := range r.Notes {
		count[fmt.Sprint("note", n.Kind)]++
	}
	for _, l := range r.Letters {
		count[fmt.Sprint("letter", l.Kind)]++
	}
	if r.Index > 0 {
		count["image"]++
	}
}
