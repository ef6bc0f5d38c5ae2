package peer

import (
	"bytes"
	"maps"
	"slices"

	"purse/accept"
	"purse/api"
	"purse/ballot"
	"purse/chunk"
	"purse/slots"
)

// member is all that a member has and knows.
type member struct {
	// The acceptor's first slot is always the one behind the commit.
	*accept.Acceptor
	node, nodes int

	// index is the slot up to which the image stands; 0: there is none. The
	// values are those of the slots behind it that are known to be chosen.
	index  int
	image  []byte
	values [][]byte

	seen  api.Ballot // the greatest of all letters
	heard api.Ballot // the greatest of those that a leader writes

	// own is by which ballot the member is a candidate, or leads; zero: it does
	// neither. A candidate has answers, a leader has open slots. reach is the
	// greatest slot from which it has asked for votes by that ballot.
	own     api.Ballot
	reach   int
	leads   bool
	answers map[int]answer
	open    *slots.Log[proposal]

	// boxes are of images that come, all of them of slots behind the commit.
	boxes map[thing]*chunk.Box

	// ready is what is to be done. No two lists of it share memory, and the
	// member has none of them: so it is handed out as it stands.
	ready api.Ready
}

// thing is an image as each of its pieces names it. By it pieces of several that
// come at one time are kept apart, whoever sends them.
type thing struct {
	slot, of int
	sum      uint32
}

// load is the member that has what was saved, which may be.
func load(node, nodes int, s api.Saved) member {
	acceptor, _ := accept.Load(s.Promised, behind(s), s.Votes)
	m := member{
		Acceptor: acceptor,
		node:     node,
		nodes:    nodes,
		index:    s.Index,
		image:    bytes.Clone(s.Image),
		boxes:    map[thing]*chunk.Box{},
	}
	m.ready.Index, m.ready.Image = s.Index, bytes.Clone(s.Image)
	for _, e := range s.Entries {
		m.values = append(m.values, bytes.Clone(e.Value))
		m.ready.Chosen = append(m.ready.Chosen, entry(e.Slot, e.Value))
	}
	return m
}

// commit is the last slot that is known to be chosen.
func (m *member) commit() int {
	return m.index + len(m.values)
}

// leader is who leads, as far as is known.
func (m *member) leader() int {
	if m.leads {
		return m.node
	}
	if ballot.Less(m.heard, m.Promised()) {
		return 0
	}
	return m.heard.Node
}

// promise promises b, and tells the votes for slots from from on.
func (m *member) promise(b api.Ballot, from int) ([]api.Vote, api.Errno) {
	was := m.Promised()
	votes, e := m.Prepare(b, from)
	if e == api.OK && was != b {
		m.note(api.Note{Kind: api.NotePromise, Ballot: b})
	}
	return votes, e
}

// vote votes for v, if that can be.
func (m *member) vote(v api.Vote) api.Errno {
	had := m.has(v)
	e := m.Accept(v)
	if e == api.OK && !had {
		v.Value = bytes.Clone(v.Value)
		m.note(api.Note{Kind: api.NoteVote, Vote: v})
	}
	return e
}

// has tells whether v is the vote for its slot already.
func (m *member) has(v api.Vote) bool {
	return slices.ContainsFunc(m.Votes(), func(w api.Vote) bool {
		return w.Slot == v.Slot && w.Ballot == v.Ballot && bytes.Equal(w.Value, v.Value)
	})
}

// know takes value as the one that is chosen for the slot behind the commit.
func (m *member) know(value []byte) {
	slot := m.commit() + 1
	// Behind the last slot there is no first one for an acceptor: a commit there
	// could be written down, but not be loaded any more.
	if slot >= last {
		return
	}
	m.values = append(m.values, bytes.Clone(value))
	m.note(api.Note{Kind: api.NoteEntry, Entry: entry(slot, value)})
	m.ready.Chosen = append(m.ready.Chosen, entry(slot, value))
	m.pass()
}

// install puts an image of others, which is ahead of the commit, in the place of
// all up to slot.
func (m *member) install(slot int, image []byte) {
	m.index, m.image, m.values = slot, image, nil
	m.note(api.Note{Kind: api.NoteImage, Entry: entry(slot, image)})
	m.ready.Index, m.ready.Image = slot, bytes.Clone(image)
	// What was chosen, and has not been told, is in the image.
	m.ready.Chosen = nil
	m.pass()
}

// compact puts an image of its own in the place of all up to index.
func (m *member) compact(index int, image []byte) api.Errno {
	if index <= m.index || index > m.commit() || len(image) > mostImage {
		return api.ErrArg
	}
	m.values = slices.Delete(m.values, 0, index-m.index)
	m.index, m.image = index, bytes.Clone(image)
	m.note(api.Note{Kind: api.NoteImage, Entry: entry(index, image)})
	return api.OK
}

// pass lets go what was for slots that are not behind the commit any more.
func (m *member) pass() {
	commit := m.commit()
	m.Forget(commit + 1)
	m.open.Cut(commit + 1)
	maps.DeleteFunc(m.boxes, func(t thing, _ *chunk.Box) bool { return t.slot <= commit })
}

// note has n written down ahead of all letters of the next Ready.
func (m *member) note(n api.Note) {
	m.ready.Notes = append(m.ready.Notes, n)
}

// send has l sent. Its lists are l's alone.
func (m *member) send(l api.Letter) {
	l.From = m.node
	m.ready.Letters = append(m.ready.Letters, l)
}

// entry is value at slot, in memory of its own.
func entry(slot int, value []byte) api.Entry {
	return api.Entry{Slot: slot, Value: bytes.Clone(value)}
}
