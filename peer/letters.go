package peer

import (
	"bytes"
	"slices"

	"purse/api"
	"purse/ballot"
	"purse/choose"
	"purse/chunk"
)

// kinds is what a letter brings, by its kind.
func kinds() []func(*member, api.Letter) {
	return []func(*member, api.Letter){
		api.LetPrepare:  (*member).takePrepare,
		api.LetPromise:  (*member).takePromise,
		api.LetAccept:   (*member).takeAccept,
		api.LetAccepted: (*member).takeAccepted,
		api.LetReject:   (*member).takeReject,
		api.LetBeat:     (*member).takeBeat,
		api.LetAsk:      (*member).takeAsk,
		api.LetLearn:    (*member).takeLearn,
		api.LetPiece:    (*member).takePiece,
	}
}

// step takes a letter.
func (m *member) step(l api.Letter) api.Errno {
	brings := kinds()
	switch {
	case l.To != m.node || l.From == m.node || l.From < 1 || l.From > m.nodes:
		return api.ErrArg
	case l.Kind < 1 || l.Kind >= len(brings) || !mayBallot(l.Ballot, m.nodes):
		return api.ErrArg
	case len(l.Votes) > api.MaxSend || len(l.Entries) > api.MaxSend:
		return api.ErrArg
	}
	m.seen = ballot.Most(m.seen, l.Ballot)
	if ballot.Less(m.own, l.Ballot) {
		m.rest()
	}
	brings[l.Kind](m, l)
	return api.OK
}

// takePrepare is asked for a promise.
func (m *member) takePrepare(l api.Letter) {
	if m.refuse(l) {
		return
	}
	votes, e := m.promise(l.Ballot, l.Slot)
	if e != api.OK {
		return
	}
	m.send(api.Letter{
		Kind: api.LetPromise, To: l.From, Ballot: l.Ballot,
		Slot: l.Slot, Commit: m.commit(), Votes: votes[:min(len(votes), api.MaxSend)],
	})
}

// refuse answers a letter whose ballot is below what is promised.
func (m *member) refuse(l api.Letter) bool {
	if !ballot.Less(l.Ballot, m.Promised()) {
		return false
	}
	m.send(api.Letter{Kind: api.LetReject, To: l.From, Ballot: m.Promised()})
	return true
}

// takePromise is told of votes, by one that has promised a candidate its ballot.
func (m *member) takePromise(l api.Letter) {
	a, is := m.answers[l.From]
	if !is || l.Ballot != m.own || a.all || l.Slot < a.since || l.Slot > a.from || !m.mayTell(l) {
		return
	}
	asked := a.from
	a.commit = max(a.commit, l.Commit)
	for _, v := range l.Votes {
		// What a late letter tells once more, is here.
		if v.Slot >= a.from {
			v.Value = bytes.Clone(v.Value)
			a.votes = append(a.votes, v)
			a.from = v.Slot + 1
		}
	}
	if !choose.Right(m.nodes, []api.Promise{{Node: l.From, Votes: a.votes}}) {
		return
	}
	a.all = len(l.Votes) < api.MaxSend
	m.answers[l.From] = a
	switch {
	case a.all:
		m.pursue()
	case a.from > asked:
		m.prepare(l.From)
	}
}

// mayTell tells whether one that has promised l's ballot may have these votes:
// others could not be proposed once more.
func (m *member) mayTell(l api.Letter) bool {
	far := max(l.Commit, m.commit())
	return !slices.ContainsFunc(l.Votes, func(v api.Vote) bool {
		return v.Slot < l.Slot || v.Slot-api.MaxVotes > far || len(v.Value) > api.MaxValue || ballot.Less(l.Ballot, v.Ballot)
	})
}

// takeAccept is asked to vote for a value.
func (m *member) takeAccept(l api.Letter) {
	m.heard = ballot.Most(m.heard, l.Ballot)
	if m.refuse(l) {
		return
	}
	if l.Slot <= m.commit() {
		m.takeAsk(l)
	} else if len(l.Entries) == 1 && l.Entries[0].Slot == l.Slot {
		v := api.Vote{Slot: l.Slot, Ballot: l.Ballot, Value: l.Entries[0].Value}
		if m.vote(v) == api.OK {
			m.send(api.Letter{Kind: api.LetAccepted, To: l.From, Ballot: l.Ballot, Slot: l.Slot})
		}
	}
	m.hear(l)
}

// takeAccepted is told of a vote for what a leader has proposed.
func (m *member) takeAccepted(l api.Letter) {
	p, is := m.open.Get(l.Slot)
	if !is || l.Ballot != m.own || slices.Contains(p.by, l.From) {
		return
	}
	p.by = append(slices.Clone(p.by), l.From)
	m.open.Put(l.Slot, p)
	m.settle()
}

// takeReject is told of a greater ballot, which has been seen already.
func (m *member) takeReject(api.Letter) {}

// takeBeat is told who leads.
func (m *member) takeBeat(l api.Letter) {
	m.heard = ballot.Most(m.heard, l.Ballot)
	if !ballot.Less(l.Ballot, m.Promised()) {
		m.hear(l)
	}
}

// hear is told how far a leader's commit goes: what it has voted for by the
// leader's ballot is what the leader has proposed.
func (m *member) hear(l api.Letter) {
	for _, v := range m.Votes() {
		if v.Slot != m.commit()+1 || v.Slot > l.Commit || v.Ballot != l.Ballot {
			break
		}
		m.know(v.Value)
	}
	if m.commit() < l.Commit {
		m.ask(l.From)
	}
}

// takeAsk is asked for what is chosen from a slot on.
func (m *member) takeAsk(l api.Letter) {
	if l.Slot <= m.index && m.index > 0 {
		pieces, _ := chunk.Cut(m.image)
		for _, p := range pieces {
			m.send(api.Letter{Kind: api.LetPiece, To: l.From, Slot: m.index, Piece: p})
		}
		return
	}
	var some []api.Entry
	for slot := max(l.Slot, m.index+1); slot <= m.commit() && len(some) < api.MaxSend; slot++ {
		some = append(some, entry(slot, m.values[slot-m.index-1]))
	}
	m.send(api.Letter{Kind: api.LetLearn, To: l.From, Slot: l.Slot, Commit: m.commit(), Entries: some})
}

// takeLearn is told what is chosen.
func (m *member) takeLearn(l api.Letter) {
	was := m.commit()
	for _, e := range l.Entries {
		if e.Slot == m.commit()+1 && len(e.Value) <= api.MaxValue {
			m.doubt(e)
			m.know(e.Value)
		}
	}
	if m.commit() == was {
		return
	}
	m.settle()
	if m.commit() < l.Commit {
		m.lead()
		m.ask(l.From)
	} else {
		m.pursue()
	}
}

// doubt lets a leader rest that has proposed another value than the one that is
// chosen: then a greater ballot has led. Were it to tell of that commit by its
// own ballot, those that have voted for its value would take that as chosen.
func (m *member) doubt(e api.Entry) {
	if p, is := m.open.Get(e.Slot); is && !bytes.Equal(p.value, e.Value) {
		m.rest()
	}
}

// takePiece is told a part of an image.
func (m *member) takePiece(l api.Letter) {
	if l.Slot <= m.commit() || l.Slot >= last {
		return
	}
	t := thing{slot: l.Slot, of: l.Piece.Of, sum: l.Piece.Sum}
	box := m.boxes[t]
	if box == nil {
		box = chunk.New()
	}
	if box.Put(l.Piece) != api.OK {
		return
	}
	m.boxes[t] = box
	image, done := box.Done()
	if !done {
		if len(box.Missing()) == 0 {
			delete(m.boxes, t) // they are not what they say: all of them have to come anew
		}
		return
	}
	unsure := m.open.Len() > 0
	m.install(l.Slot, image)
	if unsure {
		m.again()
	}
	m.lead()
	m.ask(l.From)
}
