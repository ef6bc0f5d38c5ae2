package peer

import (
	"fmt"
	"slices"
	"testing"

	"purse/api"
	"purse/codec"
)

// plain is a member by the chapter's words, which leans on nothing: what Peer is
// held against.
type plain struct {
	node, nodes           int
	promised, seen, heard api.Ballot
	own                   api.Ballot
	candidate, leads      bool
	votes                 map[int]api.Vote
	index, commit         int
	image                 string
	value                 map[int]string // of the slots behind index, up to commit
	lack                  map[int]int    // of each other that has not promised all: from which slot
	since, asked          int            // a candidate's first slot that counts, the greatest that it has asked from
	theirs                map[int]map[int]api.Vote
	commits               map[int]int
	open                  map[int]string
	voters                map[int]map[int]bool
	parts                 map[string]map[int]string
	out                   api.Ready
}

func below(a, b api.Ballot) bool {
	return a.Round < b.Round || a.Round == b.Round && a.Node < b.Node
}

func greatest(a, b api.Ballot) api.Ballot {
	if below(a, b) {
		return b
	}
	return a
}

// somebodys tells whether b is a ballot of one of the nodes.
func somebodys(b api.Ballot, nodes int) bool {
	return b.Round >= 1 && b.Node >= 1 && b.Node <= nodes
}

// plainCheck is Check by its words.
func plainCheck(node, nodes int, s api.Saved) api.Errno {
	if !slices.Contains([]int{1, 3, 5}, nodes) || node < 1 || node > nodes {
		return api.ErrArg
	}
	top := s.Index
	may := s.Promised == api.Ballot{} || somebodys(s.Promised, nodes)
	may = may && s.Index >= 0 && s.Index <= 1<<40 && (s.Index > 0 || len(s.Image) == 0) && len(s.Image) <= 16*512
	for _, e := range s.Entries {
		may = may && e.Slot == top+1 && e.Slot <= 1<<40 && len(e.Value) <= 2048
		top = e.Slot
	}
	may = may && top+1 <= 1<<40
	slot := top
	for _, v := range s.Votes {
		may = may && v.Slot > slot && v.Slot-top <= 16 && v.Ballot.Round >= 1 && v.Ballot.Node >= 1 && !below(s.Promised, v.Ballot) && len(v.Value) <= 2048
		slot = v.Slot
	}
	if !may {
		return api.ErrForm
	}
	return api.OK
}

func newPlain(node, nodes int, s api.Saved) *plain {
	p := &plain{node: node, nodes: nodes, promised: s.Promised, index: s.Index, commit: s.Index, image: string(s.Image)}
	p.votes, p.value, p.parts = map[int]api.Vote{}, map[int]string{}, map[string]map[int]string{}
	for _, v := range s.Votes {
		p.votes[v.Slot] = v
	}
	for _, e := range s.Entries {
		p.commit = e.Slot
		p.value[e.Slot] = string(e.Value)
	}
	p.out = api.Ready{Index: s.Index, Image: s.Image, Chosen: s.Entries}
	return p
}

func (p *plain) note(n api.Note) { p.out.Notes = append(p.out.Notes, n) }

func (p *plain) send(l api.Letter) {
	l.From = p.node
	p.out.Letters = append(p.out.Letters, l)
}

func (p *plain) others() []int {
	var some []int
	for i := 1; i <= p.nodes; i++ {
		if i != p.node {
			some = append(some, i)
		}
	}
	return some
}

func (p *plain) neither() { p.candidate, p.leads, p.own, p.open = false, false, api.Ballot{}, nil }

func (p *plain) chosen(value string) {
	if p.commit+1 >= 1<<40 {
		return
	}
	p.commit++
	p.value[p.commit] = value
	e := api.Entry{Slot: p.commit, Value: []byte(value)}
	p.note(api.Note{Kind: api.NoteEntry, Entry: e})
	p.out.Chosen = append(p.out.Chosen, e)
	p.forget()
}

// forget: nothing is kept of slots that are not behind the commit.
func (p *plain) forget() {
	for slot := range p.votes {
		if slot <= p.commit {
			delete(p.votes, slot)
		}
	}
	for slot := range p.open {
		if slot <= p.commit {
			delete(p.open, slot)
		}
	}
}

func (p *plain) vote(v api.Vote) bool {
	if !somebodys(v.Ballot, 1<<40) || len(v.Value) > 2048 || below(v.Ballot, p.promised) || v.Slot <= p.commit || v.Slot-p.commit > 16 {
		return false
	}
	p.promised = v.Ballot
	if w, is := p.votes[v.Slot]; !is || showVote(w) != showVote(v) {
		p.note(api.Note{Kind: api.NoteVote, Vote: v})
	}
	p.votes[v.Slot] = v
	return true
}

func (p *plain) draw() api.Errno {
	b := greatest(p.promised, p.seen)
	if b.Round == 1<<63-1 {
		return api.ErrOver
	}
	p.neither()
	p.own, p.candidate = api.Ballot{Round: b.Round + 1, Node: p.node}, true
	p.promised = p.own
	p.note(api.Note{Kind: api.NotePromise, Ballot: p.own})
	p.since = 0
	p.canvass(p.commit + 1)
	p.lead()
	return api.OK
}

// canvass: it asks all others from a slot on.
func (p *plain) canvass(from int) {
	p.lack, p.theirs, p.commits = map[int]int{}, map[int]map[int]api.Vote{}, map[int]int{}
	p.asked = from
	for _, i := range p.others() {
		p.lack[i] = from
		p.theirs[i] = map[int]api.Vote{}
		p.send(api.Letter{Kind: api.LetPrepare, To: i, Ballot: p.own, Slot: from})
	}
}

// most tells whether a majority has promised all.
func (p *plain) most() bool { return p.candidate && 2*(p.nodes-len(p.lack)) > p.nodes }

func (p *plain) lead() {
	if !p.most() {
		return
	}
	best, top := map[int]api.Vote{}, 0
	for i := 1; i <= p.nodes; i++ {
		votes := p.theirs[i]
		if i == p.node {
			votes = p.votes
		} else if _, lacks := p.lack[i]; lacks {
			continue
		} else if p.commits[i] > p.commit {
			return
		}
		for slot, v := range votes {
			if slot > 1<<40 || !somebodys(v.Ballot, p.nodes) {
				return
			}
			if b, is := best[slot]; !is || below(b.Ballot, v.Ballot) {
				best[slot] = v
			}
			top = max(top, slot)
		}
	}
	p.candidate, p.leads = false, true
	p.open, p.voters = map[int]string{}, map[int]map[int]bool{}
	for slot := p.commit + 1; slot <= top; slot++ {
		p.put(slot, string(best[slot].Value))
	}
	p.goOn()
}

// put proposes a value.
func (p *plain) put(slot int, value string) {
	p.vote(api.Vote{Slot: slot, Ballot: p.own, Value: []byte(value)})
	p.open[slot], p.voters[slot] = value, map[int]bool{p.node: true}
	for _, i := range p.others() {
		p.tell(i, slot)
	}
}

func (p *plain) tell(i, slot int) {
	e := api.Entry{Slot: slot, Value: []byte(p.open[slot])}
	p.send(api.Letter{Kind: api.LetAccept, To: i, Ballot: p.own, Slot: slot, Commit: p.commit, Entries: []api.Entry{e}})
}

// goOn: the commit of a leader goes on.
func (p *plain) goOn() {
	for {
		value, is := p.open[p.commit+1]
		was := p.commit
		if is && 2*len(p.voters[p.commit+1]) > p.nodes {
			p.chosen(value)
		}
		if p.commit == was {
			return
		}
	}
}

func (p *plain) propose(value []byte) api.Errno {
	switch {
	case len(value) < 1 || len(value) > 2048:
		return api.ErrLong
	case !p.leads:
		return api.ErrLeader
	case len(p.open) >= 16:
		return api.ErrFull
	}
	p.put(p.commit+1+len(p.open), string(value))
	p.goOn()
	return api.OK
}

func (p *plain) ask(i int) { p.send(api.Letter{Kind: api.LetAsk, To: i, Slot: p.commit + 1}) }

// ahead asks the first of those that are furthest ahead.
func (p *plain) ahead() {
	at := 0
	for _, i := range p.others() {
		if p.commits[i] > max(p.commit, p.commits[at]) {
			at = i
		}
	}
	if at > 0 {
		p.ask(at)
	}
}

func (p *plain) tick() {
	for _, i := range p.others() {
		if from, lacks := p.lack[i]; p.candidate && lacks {
			p.send(api.Letter{Kind: api.LetPrepare, To: i, Ballot: p.own, Slot: from})
		}
		if p.leads {
			p.send(api.Letter{Kind: api.LetBeat, To: i, Ballot: p.own, Commit: p.commit})
		}
	}
	if p.candidate {
		p.ahead()
	}
	for slot := p.commit + 1; slot <= p.commit+16; slot++ {
		for _, i := range p.others() {
			if _, is := p.open[slot]; is && !p.voters[slot][i] {
				p.tell(i, slot)
			}
		}
	}
}

func (p *plain) compact(index int, image []byte) api.Errno {
	if index <= p.index || index > p.commit || len(image) > 16*512 {
		return api.ErrArg
	}
	p.index, p.image = index, string(image)
	p.note(api.Note{Kind: api.NoteImage, Entry: api.Entry{Slot: index, Value: image}})
	return api.OK
}

func (p *plain) step(l api.Letter) api.Errno {
	if l.To != p.node || l.From == p.node || l.From < 1 || l.From > p.nodes || l.Kind < 1 || l.Kind > 9 {
		return api.ErrArg
	}
	if l.Ballot != (api.Ballot{}) && !somebodys(l.Ballot, p.nodes) || len(l.Votes) > 4 || len(l.Entries) > 4 {
		return api.ErrArg
	}
	p.seen = greatest(p.seen, l.Ballot)
	if (p.leads || p.candidate) && below(p.own, l.Ballot) {
		p.neither()
	}
	switch l.Kind {
	case api.LetPrepare:
		p.prepare(l)
	case api.LetPromise:
		p.promise(l)
	case api.LetAccept:
		p.accept(l)
	case api.LetAccepted:
		if _, is := p.open[l.Slot]; is && p.leads && l.Ballot == p.own {
			p.voters[l.Slot][l.From] = true
			p.goOn()
		}
	case api.LetBeat:
		p.heard = greatest(p.heard, l.Ballot)
		p.hear(l)
	case api.LetAsk:
		p.answer(l)
	case api.LetLearn:
		p.learn(l)
	case api.LetPiece:
		p.piece(l)
	}
	return api.OK
}

func (p *plain) prepare(l api.Letter) {
	if below(l.Ballot, p.promised) {
		p.send(api.Letter{Kind: api.LetReject, To: l.From, Ballot: p.promised})
		return
	}
	if l.Ballot == (api.Ballot{}) {
		return
	}
	if p.promised != l.Ballot {
		p.promised = l.Ballot
		p.note(api.Note{Kind: api.NotePromise, Ballot: l.Ballot})
	}
	var some []api.Vote
	for slot := max(l.Slot, p.commit+1); slot <= p.commit+16; slot++ {
		if v, is := p.votes[slot]; is && len(some) < 4 {
			some = append(some, v)
		}
	}
	p.send(api.Letter{Kind: api.LetPromise, To: l.From, Ballot: l.Ballot, Slot: l.Slot, Commit: p.commit, Votes: some})
}

func (p *plain) promise(l api.Letter) {
	from, lacks := p.lack[l.From]
	if !p.candidate || l.Ballot != p.own || !lacks || l.Slot > from || l.Slot < p.since {
		return
	}
	found, next := map[int]api.Vote{}, from
	for slot, v := range p.theirs[l.From] {
		found[slot] = v
	}
	for _, v := range l.Votes {
		if v.Slot < l.Slot || v.Slot > max(l.Commit, p.commit)+16 || len(v.Value) > 2048 || below(l.Ballot, v.Ballot) {
			return
		}
		if v.Slot < next {
			continue // it is here, or does not rise
		}
		if !somebodys(v.Ballot, p.nodes) || v.Slot > 1<<40 {
			return
		}
		found[v.Slot], next = v, v.Slot+1
	}
	if len(found) > 16 {
		return
	}
	p.theirs[l.From], p.lack[l.From] = found, next
	p.commits[l.From] = max(p.commits[l.From], l.Commit)
	if len(l.Votes) < 4 {
		delete(p.lack, l.From)
		p.toLead()
	} else if next > from {
		p.asked = max(p.asked, next)
		p.send(api.Letter{Kind: api.LetPrepare, To: l.From, Ballot: p.own, Slot: next})
	}
}

// toLead: it leads, or asks for what it lacks.
func (p *plain) toLead() {
	p.lead()
	if p.most() {
		p.ahead()
	}
}

func (p *plain) accept(l api.Letter) {
	p.heard = greatest(p.heard, l.Ballot)
	switch {
	case below(l.Ballot, p.promised):
		p.send(api.Letter{Kind: api.LetReject, To: l.From, Ballot: p.promised})
	case l.Slot <= p.commit:
		p.answer(l)
	case len(l.Entries) == 1 && l.Entries[0].Slot == l.Slot:
		if p.vote(api.Vote{Slot: l.Slot, Ballot: l.Ballot, Value: l.Entries[0].Value}) {
			p.send(api.Letter{Kind: api.LetAccepted, To: l.From, Ballot: l.Ballot, Slot: l.Slot})
		}
	}
	p.hear(l)
}

func (p *plain) hear(l api.Letter) {
	if below(l.Ballot, p.promised) {
		return
	}
	for p.commit < l.Commit && p.commit+1 < 1<<40 {
		v, is := p.votes[p.commit+1]
		if !is || v.Ballot != l.Ballot {
			break
		}
		p.chosen(string(v.Value))
	}
	if p.commit < l.Commit {
		p.ask(l.From)
	}
}

func (p *plain) answer(l api.Letter) {
	if p.index > 0 && l.Slot <= p.index {
		for _, x := range cut(p.image) {
			p.send(api.Letter{Kind: api.LetPiece, To: l.From, Slot: p.index, Piece: x})
		}
		return
	}
	var some []api.Entry
	for slot := p.index + 1; slot <= p.commit && len(some) < 4; slot++ {
		if slot >= l.Slot {
			some = append(some, api.Entry{Slot: slot, Value: []byte(p.value[slot])})
		}
	}
	p.send(api.Letter{Kind: api.LetLearn, To: l.From, Slot: l.Slot, Commit: p.commit, Entries: some})
}

// cut is the pieces of an image.
func cut(image string) []api.Piece {
	var some []api.Piece
	sum, left := codec.Sum([]byte(image)), image
	for len(some) == 0 || left != "" {
		n := min(512, len(left))
		some = append(some, api.Piece{At: len(some), Of: max(1, (len(image)+511)/512), Sum: sum, Data: []byte(left[:n])})
		left = left[n:]
	}
	return some
}

func (p *plain) learn(l api.Letter) {
	was := p.commit
	for _, e := range l.Entries {
		if e.Slot != p.commit+1 || len(e.Value) > 2048 {
			continue
		}
		if value, is := p.open[e.Slot]; is && value != string(e.Value) {
			p.neither()
		}
		p.chosen(string(e.Value))
	}
	if p.commit == was {
		return
	}
	p.goOn()
	if p.commit < l.Commit {
		p.lead()
		p.ask(l.From)
		return
	}
	p.toLead()
}

func (p *plain) piece(l api.Letter) {
	x := l.Piece
	if l.Slot <= p.commit || l.Slot >= 1<<40 || x.Of < 1 || x.Of > 16 || x.At < 0 || x.At >= x.Of {
		return
	}
	if n := len(x.Data); x.At < x.Of-1 && n != 512 || n > 512 || n == 0 && x.Of > 1 {
		return
	}
	of := fmt.Sprint(l.Slot, x.Of, x.Sum)
	if p.parts[of] == nil {
		p.parts[of] = map[int]string{}
	}
	if part, is := p.parts[of][x.At]; is && part != string(x.Data) {
		return
	}
	p.parts[of][x.At] = string(x.Data)
	if len(p.parts[of]) < x.Of {
		return
	}
	image := ""
	for at := range x.Of {
		image += p.parts[of][at]
	}
	delete(p.parts, of)
	if codec.Sum([]byte(image)) != x.Sum {
		return
	}
	p.index, p.image, p.commit = l.Slot, image, l.Slot
	p.note(api.Note{Kind: api.NoteImage, Entry: api.Entry{Slot: l.Slot, Value: []byte(image)}})
	p.out.Index, p.out.Image, p.out.Chosen = l.Slot, []byte(image), nil
	if len(p.open) > 0 { // whether what it had proposed was chosen, it can't know: it asks anew
		p.leads, p.candidate, p.open = false, true, nil
		p.since = max(p.commit, p.asked) + 1
		p.canvass(p.since)
	}
	p.forget()
	p.lead()
	p.ask(l.From)
}

func (p *plain) leader() int {
	switch {
	case p.leads:
		return p.node
	case below(p.heard, p.promised):
		return 0
	}
	return p.heard.Node
}

// twin is a member, and a plain one to which all is done, too.
type twin struct {
	t    testing.TB
	what string
	*Peer
	q *plain
}

func newTwin(t testing.TB, what string, node, nodes int, s api.Saved) (*twin, api.Errno) {
	t.Helper()
	p, e := New(node, nodes, s)
	if want := plainCheck(node, nodes, s); e != want {
		t.Fatalf("%s: New(%d, %d): error %d; want %d", what, node, nodes, e, want)
	}
	if e != api.OK {
		return nil, e
	}
	w := &twin{t: t, what: what, Peer: p, q: newPlain(node, nodes, s)}
	w.alike("New")
	return w, api.OK
}

// alike holds what both tell of themselves against each other.
func (w *twin) alike(what string) {
	w.t.Helper()
	got := fmt.Sprint(w.Peer.Leads(), w.Peer.Leader(), w.Peer.Commit(), w.Peer.Ballot())
	if line := fmt.Sprint(w.q.leads, w.q.leader(), w.q.commit, w.q.own); got != line {
		w.t.Fatalf("%s: %s: leads, leader, commit, ballot: %s; want %s", w.what, what, got, line)
	}
}

func (w *twin) both(what string, e, want api.Errno) api.Errno {
	w.t.Helper()
	if e != want {
		w.t.Fatalf("%s: %s: error %d; want %d", w.what, what, e, want)
	}
	w.alike(what)
	return e
}

func (w *twin) Draw() api.Errno {
	w.t.Helper()
	return w.both("Draw", w.Peer.Draw(), w.q.draw())
}

func (w *twin) Propose(value []byte) api.Errno {
	w.t.Helper()
	return w.both("Propose", w.Peer.Propose(value), w.q.propose(value))
}

func (w *twin) Step(l api.Letter) api.Errno {
	w.t.Helper()
	return w.both(showLetter(l), w.Peer.Step(l), w.q.step(l))
}

func (w *twin) Tick() api.Errno {
	w.t.Helper()
	w.q.tick()
	return w.both("Tick", w.Peer.Tick(), api.OK)
}

func (w *twin) Compact(index int, image []byte) api.Errno {
	w.t.Helper()
	return w.both("Compact", w.Peer.Compact(index, image), w.q.compact(index, image))
}

func (w *twin) Ready() api.Ready {
	w.t.Helper()
	r := w.Peer.Ready()
	if got, line := show(r), show(w.q.out); got != line {
		w.t.Fatalf("%s: Ready:\n%s\nwant\n%s", w.what, got, line)
	}
	w.q.out = api.Ready{}
	return r
}
