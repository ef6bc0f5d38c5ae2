package peer

import (
	"bytes"
	"iter"
	"slices"

	"purse/api"
	"purse/ballot"
	"purse/choose"
	"purse/slots"
)

// answer is what another member has told a candidate.
type answer struct {
	since  int  // the first slot from which it was asked
	from   int  // the slot from which its votes lack
	all    bool // none lack
	commit int
	votes  []api.Vote
}

// proposal is what a leader has proposed for a slot, and who has voted for it.
type proposal struct {
	value []byte
	by    []int
}

// others are all members but this one.
func (m *member) others() iter.Seq[int] {
	return func(yield func(int) bool) {
		for node := 1; node <= m.nodes; node++ {
			if node != m.node && !yield(node) {
				return
			}
		}
	}
}

// rest lets the member be neither candidate nor leader.
func (m *member) rest() {
	m.own, m.reach, m.leads, m.answers, m.open = api.Ballot{}, 0, false, nil, nil
}

// draw lets the member be a candidate.
func (m *member) draw() api.Errno {
	b, e := ballot.Next(ballot.Most(m.Promised(), m.seen), m.node)
	if e != api.OK {
		return e
	}
	m.rest()
	m.own = b
	m.promise(b, m.commit()+1)
	m.poll(0, m.commit()+1)
	m.lead()
	return api.OK
}

// again lets a leader be a candidate once more, by the ballot that it has. An
// image has come in the place of slots for which it had proposed something, and
// it can't tell whether that was chosen, as doubt does. If it was not, a greater
// ballot has led, and no majority promises this one any more. So it asks for that
// from a slot from which it has asked nobody yet: answers that were late don't
// count.
func (m *member) again() {
	m.leads, m.open = false, nil
	from := max(m.commit(), m.reach) + 1
	m.poll(from, from)
}

// poll asks all others for their promises, and for their votes from from on.
func (m *member) poll(since, from int) {
	m.answers = map[int]answer{}
	for node := range m.others() {
		m.answers[node] = answer{since: since, from: from}
		m.prepare(node)
	}
}

// prepare asks node for its promise, and for the votes that lack of it.
func (m *member) prepare(node int) {
	slot := m.answers[node].from
	m.reach = max(m.reach, slot)
	m.send(api.Letter{Kind: api.LetPrepare, To: node, Ballot: m.own, Slot: slot})
}

// majority is what those have promised that have promised all, and the greatest
// commit among them, if they are a majority.
func (m *member) majority() (l []api.Promise, commit int, is bool) {
	l = []api.Promise{{Node: m.node, Votes: m.Votes()}}
	for node := range m.others() {
		if a := m.answers[node]; a.all {
			l = append(l, api.Promise{Node: node, Votes: a.votes})
			commit = max(commit, a.commit)
		}
	}
	return l, commit, len(l) >= ballot.Quorum(m.nodes)
}

// lead lets a candidate lead, if a majority has promised all, and none of it
// knows more to be chosen.
func (m *member) lead() {
	if m.answers == nil {
		return
	}
	l, commit, is := m.majority()
	if !is || commit > m.commit() {
		return
	}
	found, e := choose.Open(m.nodes, m.commit()+1, l)
	if e != api.OK {
		return
	}
	m.leads, m.answers = true, nil
	m.open = slots.New[proposal](m.commit()+1, api.MaxVotes)
	for _, e := range found {
		m.propose(e.Slot, e.Value)
	}
	m.settle()
}

// pursue lets a candidate lead, if it may; else it asks for what it lacks, if a
// majority has promised all.
func (m *member) pursue() {
	m.lead()
	if _, _, is := m.majority(); is {
		m.chase()
	}
}

// chase asks the one that is furthest ahead, if any of those that have answered
// a candidate is ahead of it.
func (m *member) chase() {
	furthest, commit := 0, m.commit()
	for node := range m.others() {
		if a := m.answers[node]; a.commit > commit {
			furthest, commit = node, a.commit
		}
	}
	if furthest > 0 {
		m.ask(furthest)
	}
}

// ask asks node for what is chosen behind the commit.
func (m *member) ask(node int) {
	m.send(api.Letter{Kind: api.LetAsk, To: node, Slot: m.commit() + 1})
}

// offer lets a leader propose value for the slot behind all open ones.
func (m *member) offer(value []byte) api.Errno {
	switch {
	case len(value) == 0 || len(value) > api.MaxValue:
		return api.ErrLong
	case !m.leads:
		return api.ErrLeader
	case m.open.Len() >= api.MaxVotes:
		return api.ErrFull
	}
	m.propose(m.open.Top(), value)
	m.settle()
	return api.OK
}

// propose votes for value, and tells all others of it.
func (m *member) propose(slot int, value []byte) {
	m.vote(api.Vote{Slot: slot, Ballot: m.own, Value: value})
	m.open.Put(slot, proposal{value: bytes.Clone(value), by: []int{m.node}})
	for node := range m.others() {
		m.tell(node, slot, value)
	}
}

// tell asks node to accept value.
func (m *member) tell(node, slot int, value []byte) {
	m.send(api.Letter{
		Kind: api.LetAccept, To: node, Ballot: m.own,
		Slot: slot, Commit: m.commit(), Entries: []api.Entry{entry(slot, value)},
	})
}

// settle lets the commit of a leader go on over slots for which a majority has
// voted.
func (m *member) settle() {
	for _, p := range m.open.Run() {
		if !ballot.Enough(m.nodes, p.by...) {
			return
		}
		m.know(p.value)
	}
}

// tick asks, or tells, once more what is waited for.
func (m *member) tick() {
	switch {
	case m.leads:
		m.beat()
	case m.own != api.Ballot{}:
		m.remind()
	}
}

// beat tells all others that this one leads, and those of open slots that have
// not voted.
func (m *member) beat() {
	for node := range m.others() {
		m.send(api.Letter{Kind: api.LetBeat, To: node, Ballot: m.own, Commit: m.commit()})
	}
	for slot, p := range m.open.All() {
		for node := range m.others() {
			if !slices.Contains(p.by, node) {
				m.tell(node, slot, p.value)
			}
		}
	}
}

// remind asks those that have not promised a candidate all, and one that is
// ahead.
func (m *member) remind() {
	for node := range m.others() {
		if !m.answers[node].all {
			m.prepare(node)
		}
	}
	m.chase()
}
