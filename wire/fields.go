package wire

import (
	"purse/api"
)

// Each function here goes over the fields of one type, in the order in which
// package api declares them.

// mail is a letter and the group whose members speak, which stands ahead.
type mail struct {
	group  int
	letter api.Letter
}

func mailed(c clerk, m *mail) {
	c.ints(&m.group)
	letter(c, &m.letter)
}

func letter(c clerk, l *api.Letter) {
	c.ints(&l.Kind, &l.From, &l.To)
	ballot(c, &l.Ballot)
	c.ints(&l.Slot, &l.Commit)
	list(c, &l.Votes, func(v *api.Vote) { vote(c, v) })
	list(c, &l.Entries, func(e *api.Entry) { entry(c, e) })
	piece(c, &l.Piece)
}

func ballot(c clerk, b *api.Ballot) {
	c.ints(&b.Round, &b.Node)
}

func vote(c clerk, v *api.Vote) {
	c.ints(&v.Slot)
	ballot(c, &v.Ballot)
	c.bytes(&v.Value)
}

func entry(c clerk, e *api.Entry) {
	c.ints(&e.Slot)
	c.bytes(&e.Value)
}

func piece(c clerk, p *api.Piece) {
	c.ints(&p.At, &p.Of)
	c.small(&p.Sum)
	c.bytes(&p.Data)
}

func note(c clerk, n *api.Note) {
	c.ints(&n.Kind, &n.Group)
	ballot(c, &n.Ballot)
	vote(c, &n.Vote)
	entry(c, &n.Entry)
	right(c, &n.Right)
	c.ints(&n.Client, &n.Seq)
}

func right(c clerk, r *api.Right) {
	c.ints(&r.Group)
	c.texts(&r.Key)
	c.ints(&r.Lease, &r.Net)
}

func command(c clerk, m *api.Command) {
	c.ints(&m.Kind, &m.Client, &m.Seq, &m.Epoch, &m.Node, &m.Home)
	c.texts(&m.Key)
	c.ints(&m.Lease, &m.Round, &m.Net)
	c.flag(&m.Yes)
	op(c, &m.Op)
	plan(c, &m.Plan)
	c.bytes(&m.Image)
}

func op(c clerk, o *api.Op) {
	c.ints(&o.Kind)
	c.texts(&o.Key, &o.Other)
	c.ints(&o.N, &o.Lo, &o.Hi)
}

func plan(c clerk, p *api.Plan) {
	c.ints(&p.Number, &p.From, &p.To)
	c.texts(&p.Lo, &p.Hi)
	c.ints(&p.Client, &p.Seq)
}

func state(c clerk, s *api.State) {
	c.ints(&s.Group, &s.Index)
	c.flag(&s.Owns)
	c.texts(&s.Lo, &s.Hi)
	c.ints(&s.Epoch)
	list(c, &s.Accounts, func(a *api.Account) { account(c, a) })
	list(c, &s.Marks, func(m *api.Mark) { mark(c, m) })
	list(c, &s.Waits, func(w *api.Wait) { wait(c, w) })
	list(c, &s.Deals, func(d *api.Deal) { deal(c, d) })
	list(c, &s.Ends, func(e *api.End) { c.ints(&e.Client, &e.Seq) })
	plan(c, &s.Seal)
	plan(c, &s.Out)
	c.bytes(&s.Image)
	c.ints(&s.Absorbed, &s.Refused, &s.Undone)
}

func account(c clerk, a *api.Account) {
	c.texts(&a.Key)
	c.ints(&a.Span.Lo, &a.Span.Hi, &a.Base, &a.Round)
	list(c, &a.Holders, func(h *api.Holder) { c.ints(&h.Node, &h.Lease, &h.Up, &h.Down) })
	c.ints(&a.Lock.Client, &a.Lock.Seq, &a.Lock.Home, &a.Lock.N)
}

func mark(c clerk, m *api.Mark) {
	c.ints(&m.Client, &m.Seq)
	c.flag(&m.Open)
	c.errno(&m.Answer.Err)
	c.ints(&m.Answer.Value, &m.Answer.Least, &m.Answer.Most)
}

func wait(c clerk, w *api.Wait) {
	c.ints(&w.Kind, &w.Client, &w.Seq, &w.Node, &w.Home)
	op(c, &w.Op)
}

func deal(c clerk, d *api.Deal) {
	c.ints(&d.Client, &d.Seq)
	c.texts(&d.Key, &d.Other)
	c.ints(&d.N, &d.Mine, &d.Theirs, &d.Fate)
}

func chart(c clerk, h *api.Chart) {
	c.ints(&h.Index)
	list(c, &h.Places, func(p *api.Place) { place(c, p) })
	c.ints(&h.Next, &h.Last)
	plan(c, &h.Plan)
	list(c, &h.Marks, func(m *api.Mark) { mark(c, m) })
}

func place(c clerk, p *api.Place) {
	c.ints(&p.Group)
	c.texts(&p.From)
	c.ints(&p.Epoch)
}
