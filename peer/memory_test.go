package peer

import (
	"bytes"
	"fmt"
	"math/rand"
	"testing"

	"purse/api"
)

// roomy is bytes with room behind their end.
func roomy(b []byte) []byte {
	return append(append(make([]byte, 0, len(b)+9), b...), "behind it"...)[:len(b)]
}

func roomyVotes(l []api.Vote) []api.Vote {
	some := make([]api.Vote, len(l), len(l)+2)
	for i, v := range l {
		some[i] = api.Vote{Slot: v.Slot, Ballot: v.Ballot, Value: roomy(v.Value)}
	}
	some[:len(l)+1][len(l)] = vote(77, bal(7, 7), "behind")
	return some
}

func roomyEntries(l []api.Entry) []api.Entry {
	some := make([]api.Entry, len(l), len(l)+2)
	for i, e := range l {
		some[i] = api.Entry{Slot: e.Slot, Value: roomy(e.Value)}
	}
	some[:len(l)+1][len(l)] = one(77, "behind")[0]
	return some
}

func roomyLetter(l api.Letter) api.Letter {
	l.Votes, l.Entries, l.Piece.Data = roomyVotes(l.Votes), roomyEntries(l.Entries), roomy(l.Piece.Data)
	return l
}

func roomySaved(s api.Saved) api.Saved {
	s.Votes, s.Entries, s.Image = roomyVotes(s.Votes), roomyEntries(s.Entries), roomy(s.Image)
	return s
}

// wide is what a list has, with the room behind its end.
func wide(b []byte) string { return fmt.Sprintf("%q", b[:cap(b)]) }

func wideVotes(l []api.Vote) string {
	s := fmt.Sprint(len(l))
	for _, v := range l[:cap(l)] {
		s += fmt.Sprint(v.Slot, v.Ballot, wide(v.Value))
	}
	return s
}

func wideEntries(l []api.Entry) string {
	s := fmt.Sprint(len(l))
	for _, e := range l[:cap(l)] {
		s += fmt.Sprint(e.Slot, wide(e.Value))
	}
	return s
}

func wideLetter(l api.Letter) string {
	return wideVotes(l.Votes) + wideEntries(l.Entries) + wide(l.Piece.Data)
}

func wideSaved(s api.Saved) string {
	return wideVotes(s.Votes) + wideEntries(s.Entries) + wide(s.Image)
}

func spoil(b []byte) {
	b = b[:cap(b)]
	for i := range b {
		b[i] = '#'
	}
}

func spoilVotes(l []api.Vote) {
	for i, v := range l[:cap(l)] {
		spoil(v.Value)
		l[:cap(l)][i] = vote(99, bal(99, 99), "spoilt")
	}
}

func spoilEntries(l []api.Entry) {
	for i, e := range l[:cap(l)] {
		spoil(e.Value)
		l[:cap(l)][i] = one(99, "spoilt")[0]
	}
}

func spoilLetter(l api.Letter) {
	spoilVotes(l.Votes)
	spoilEntries(l.Entries)
	spoil(l.Piece.Data)
}

func spoilReady(r api.Ready) {
	for _, n := range r.Notes {
		spoil(n.Vote.Value)
		spoil(n.Entry.Value)
	}
	for i := range r.Notes[:cap(r.Notes)] {
		r.Notes[:cap(r.Notes)][i] = api.Note{Kind: 99}
	}
	for _, l := range r.Letters {
		spoilLetter(l)
	}
	for i := range r.Letters[:cap(r.Letters)] {
		r.Letters[:cap(r.Letters)][i] = api.Letter{Kind: 99}
	}
	spoilEntries(r.Chosen)
	spoil(r.Image)
}

// Of two members one is handed lists that are spoilt behind each call, and what it
// hands out is spoilt, too: both stay alike. (R3)
func TestNothingIsSharedWithCallers(t *testing.T) {
	for seed := range 300 {
		r := rand.New(rand.NewSource(int64(seed)))
		nodes := []int{3, 5, 1}[seed%3]
		h := hand{r: r, nodes: nodes, node: 1 + r.Intn(nodes)}
		s := h.saved()
		w, e := newTwin(t, "memory", h.node, nodes, s)
		if e != api.OK {
			continue
		}
		given := roomySaved(s)
		line := wideSaved(given)
		p, _ := New(h.node, nodes, given)
		if Check(h.node, nodes, given) != api.OK || wideSaved(given) != line {
			t.Fatalf("run %d: what was saved is changed", seed)
		}
		spoilVotes(given.Votes)
		spoilEntries(given.Entries)
		spoil(given.Image)
		for at := range 200 {
			w.what = fmt.Sprintf("run %d, step %d", seed, at)
			switch k := r.Intn(100); {
			case k < 3:
				w.Draw()
				p.Draw()
			case k < 12:
				v := h.value()
				w.Propose(v)
				handed(t, w.what, roomy(v), p.Propose)
			case k < 15:
				w.Tick()
				p.Tick()
			case k < 20:
				v, index := []byte(fmt.Sprint("image", at)), w.Commit()-r.Intn(3)
				w.Compact(index, v)
				handed(t, w.what, roomy(v), func(v []byte) api.Errno { return p.Compact(index, v) })
			default:
				l := h.letter(w)
				w.Step(l)
				given := roomyLetter(l)
				line := wideLetter(given)
				p.Step(given)
				if wideLetter(given) != line {
					t.Fatalf("%s: a letter is changed: %s", w.what, showLetter(l))
				}
				spoilLetter(given)
			}
			if r.Intn(3) == 0 {
				got, line := p.Ready(), w.Ready()
				if show(got) != show(line) {
					t.Fatalf("%s: Ready:\n%s\nwant\n%s", w.what, show(got), show(line))
				}
				apart(t, w.what, got)
				spoilReady(got)
			}
		}
	}
}

// handed hands a list to a call, and spoils it.
func handed(t *testing.T, what string, v []byte, call func([]byte) api.Errno) {
	t.Helper()
	line := wide(v)
	call(v)
	if wide(v) != line {
		t.Fatalf("%s: what is handed in is changed", what)
	}
	spoil(v)
}

// apart tells whether no two lists of a Ready share memory.
func apart(t *testing.T, what string, r api.Ready) {
	t.Helper()
	var lists [][]byte
	votes, entries := map[*api.Vote]bool{}, map[*api.Entry]bool{}
	for _, n := range r.Notes {
		lists = append(lists, n.Vote.Value, n.Entry.Value)
	}
	for _, l := range r.Letters {
		lists = append(lists, l.Piece.Data)
		for _, v := range l.Votes {
			lists = append(lists, v.Value)
		}
		for _, e := range l.Entries {
			lists = append(lists, e.Value)
		}
		once(t, what, votes, l.Votes)
		once(t, what, entries, l.Entries)
	}
	for _, e := range r.Chosen {
		lists = append(lists, e.Value)
	}
	lists = append(lists, r.Image)
	once(t, what, entries, r.Chosen)
	was := make([][]byte, len(lists))
	for i, l := range lists {
		was[i] = bytes.Clone(l)
		for at := range l[:cap(l)] {
			l[:cap(l)][at] = byte(i)
		}
	}
	for i, l := range lists {
		for _, c := range l[:cap(l)] {
			if c != byte(i) {
				t.Fatalf("%s: two lists of a Ready share memory", what)
			}
		}
		copy(l, was[i])
	}
}

// once tells whether no list with the elements of l was there.
func once[T any](t *testing.T, what string, places map[*T]bool, l []T) {
	t.Helper()
	for i := range l[:cap(l)] {
		p := &l[:cap(l)][i]
		if places[p] {
			t.Fatalf("%s: two lists of a Ready share elements", what)
		}
		places[p] = true
	}
}

// To ask a member changes nothing of it: many may ask it at once; and members
// don't share anything.
func TestReadByMany(t *testing.T) {
	p := leader(t, 3, 2)
	lines := make(chan string)
	for range 8 {
		go func() {
			q := leader(t, 3, 2)
			q.Propose([]byte("x"))
			lines <- fmt.Sprint(p.Leads(), p.Leader(), p.Commit(), p.Ballot(), Check(1, 3, api.Saved{}), show(q.Ready()))
		}()
	}
	for range 8 {
		if s := <-lines; s != `true 1 2 {1 1} 0vote 3{1 1}"x"; accept 1>2 {1 1} at 3 commit 2 3="x", accept 1>3 {1 1} at 3 commit 2 3="x"; ` {
			t.Errorf("one of many: %s", s)
		}
	}
}
