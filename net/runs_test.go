package net

import (
	"fmt"
	"math/rand"
	"testing"

	"purse/api"
)

// plain is a net as the chapter's words have it: packets as texts, and a list
// of all cuts that were asked for since the last Heal.
type plain struct {
	nodes int
	under []packet
	cuts  [][2]int
}

type packet struct {
	from, to int
	body     string
}

func (k packet) String() string { return fmt.Sprintf("%d>%d:%.40q", k.from, k.to, k.body) }

func (p *plain) no(node int) bool { return node < 1 || node > p.nodes }

func (p *plain) send(from, to int, body string) api.Errno {
	if p.no(from) || p.no(to) || len(body) > api.MaxBody {
		return api.ErrArg
	}
	for _, c := range p.cuts {
		if c[0] == from && c[1] == to || c[0] == to && c[1] == from {
			return api.OK
		}
	}
	if len(p.under) == api.MaxPackets {
		return api.ErrFull
	}
	p.under = append(p.under, packet{from, to, body})
	return api.OK
}

func (p *plain) take(i int) (packet, api.Errno) {
	var rest []packet
	var out packet
	e := api.ErrNone
	for j, k := range p.under {
		if j == i {
			out, e = k, api.OK
		} else {
			rest = append(rest, k)
		}
	}
	p.under = rest
	return out, e
}

func (p *plain) double(i int) api.Errno {
	if i < 0 || i >= len(p.under) {
		return api.ErrNone
	}
	if len(p.under) == api.MaxPackets {
		return api.ErrFull
	}
	p.under = append(p.under, p.under[i])
	return api.OK
}

func (p *plain) cut(a, b int) api.Errno {
	if p.no(a) || p.no(b) || a == b {
		return api.ErrArg
	}
	p.cuts = append(p.cuts, [2]int{a, b})
	return api.OK
}

func (p *plain) fork() *plain {
	return &plain{nodes: p.nodes, under: append([]packet(nil), p.under...), cuts: append([][2]int(nil), p.cuts...)}
}

// alike is what of a net is not as the plain one has it; "" if all is.
func alike(n *Net, p *plain) string {
	if n.Len() != len(p.under) {
		return fmt.Sprintf("Len %d; want %d", n.Len(), len(p.under))
	}
	at := 0
	for i, k := range n.All() {
		if i != at || i >= len(p.under) {
			return fmt.Sprintf("All tells the place %d as the %d-th", i, at)
		}
		if w := p.under[i]; k.From != w.from || k.To != w.to || string(k.Body) != w.body {
			return fmt.Sprintf("the place %d: %.80q; want %v", i, text(k), w)
		}
		at++
	}
	if at != len(p.under) {
		return fmt.Sprintf("All tells %d; want %d", at, len(p.under))
	}
	return ""
}

// someBody is bytes of which no two are often the same; now and then none, or
// as many as may be, or one more.
func someBody(r *rand.Rand) []byte {
	size := r.Intn(12)
	switch r.Intn(400) {
	case 0:
		size = api.MaxBody
	case 1:
		size = api.MaxBody + 1
	}
	b := make([]byte, size)
	r.Read(b)
	return b
}

// someNode is a node, and now and then none.
func someNode(r *rand.Rand, nodes int) int {
	if r.Intn(25) == 0 {
		return []int{0, -1, nodes + 1}[r.Intn(3)]
	}
	return 1 + r.Intn(nodes)
}

// somePlace is a place, and now and then none.
func somePlace(r *rand.Rand, under int) int { return r.Intn(under+3) - 1 }

// step does one thing to both, and tells what was answered. Of a hundred steps
// busy more are Sends than a calm run has.
func step(r *rand.Rand, n *Net, p *plain, busy int) (what string, got, want api.Errno) {
	switch k := r.Intn(100 + busy); {
	case k < 6:
		a, b := someNode(r, p.nodes), someNode(r, p.nodes)
		return fmt.Sprintf("Cut(%d, %d)", a, b), n.Cut(a, b), p.cut(a, b)
	case k < 9:
		p.cuts = nil
		return "Heal", n.Heal(), api.OK
	case k < 30:
		i := somePlace(r, len(p.under))
		w, e := p.take(i)
		k, got := n.Deliver(i)
		if k.From != w.from || k.To != w.to || string(k.Body) != w.body {
			return fmt.Sprintf("Deliver(%d) of %.80q in the place of %v", i, text(k), w), -1, e
		}
		return fmt.Sprintf("Deliver(%d)", i), got, e
	case k < 38:
		i := somePlace(r, len(p.under))
		_, e := p.take(i)
		return fmt.Sprintf("Drop(%d)", i), n.Drop(i), e
	case k < 54:
		i := somePlace(r, len(p.under))
		return fmt.Sprintf("Double(%d)", i), n.Double(i), p.double(i)
	default:
		from, to, b := someNode(r, p.nodes), someNode(r, p.nodes), someBody(r)
		return fmt.Sprintf("Send(%d, %d, %d bytes)", from, to, len(b)), n.Send(from, to, b), p.send(from, to, string(b))
	}
}

// Runs of all calls, and forks that go on by themselves, against the plain one.
func TestP6RunsAgainstPlainWords(t *testing.T) {
	for seed := range 120 {
		r := rand.New(rand.NewSource(int64(seed)))
		nodes := 1 + seed%api.MaxNodes
		ns, ps := []*Net{fresh(t, nodes)}, []*plain{{nodes: nodes}}
		for at := range 400 {
			i := r.Intn(len(ns))
			if len(ns) < 3 && r.Intn(60) == 0 {
				ns, ps = append(ns, ns[i].Fork()), append(ps, ps[i].fork())
			}
			what, got, want := step(r, ns[i], ps[i], 0)
			if got != want {
				t.Fatalf("run %d, step %d: %s: error %d; want %d", seed, at, what, got, want)
			}
			for j := range ns {
				if s := alike(ns[j], ps[j]); s != "" {
					t.Fatalf("run %d, step %d: %s of net %d: net %d: %s", seed, at, what, i, j, s)
				}
			}
		}
	}
}

// Runs that go along the edge of MaxPackets.
func TestP6RunsOfAFullNet(t *testing.T) {
	full := 0
	for seed := range 4 {
		r := rand.New(rand.NewSource(int64(seed)))
		nodes := 2 + seed%(api.MaxNodes-1)
		n, p := fresh(t, nodes), &plain{nodes: nodes}
		for at := range 2500 {
			what, got, want := step(r, n, p, 60)
			if got != want {
				t.Fatalf("run %d, step %d: %s: error %d; want %d", seed, at, what, got, want)
			}
			if s := alike(n, p); s != "" {
				t.Fatalf("run %d, step %d: %s: %s", seed, at, what, s)
			}
			if got == api.ErrFull {
				full++
			}
		}
	}
	if full < 100 {
		t.Errorf("just %d calls were refused by a full net: the runs don't go along the edge", full)
	}
}

// sent is a packet that was sent, and how often it may still come.
type sent struct {
	packet
	left int
}

// ever is all that was sent, by bodies, of which no two are alike.
type ever map[string]*sent

func (v ever) send(t *testing.T, n *Net, k packet) {
	t.Helper()
	before := n.Len()
	send(t, n, k.from, k.to, k.body)
	v[k.body] = &sent{k, n.Len() - before}
}

// at is what was sent of the packet at the place i.
func (v ever) at(t *testing.T, n *Net, i int) *sent {
	t.Helper()
	for j, k := range n.All() {
		if j == i {
			return v.find(t, k)
		}
	}
	t.Fatalf("%d under way, and no place %d", n.Len(), i)
	return nil
}

// find is what was sent of a packet that is told.
func (v ever) find(t *testing.T, k api.Packet) *sent {
	t.Helper()
	s := v[string(k.Body)]
	if s == nil || s.from != k.From || s.to != k.To {
		t.Fatalf("%.80q: nobody sent it", text(k))
	}
	return s
}

func (v ever) double(t *testing.T, n *Net, i int) {
	t.Helper()
	s := v.at(t, n, i)
	if n.Double(i) == api.OK {
		s.left++
	}
}

func (v ever) drop(t *testing.T, n *Net, i int) {
	t.Helper()
	s := v.at(t, n, i)
	want(t, "Drop", n.Drop(i), api.OK)
	s.left--
}

func (v ever) deliver(t *testing.T, n *Net, i int) {
	t.Helper()
	k, e := n.Deliver(i)
	want(t, "Deliver", e, api.OK)
	s := v.find(t, k)
	if s.left--; s.left < 0 {
		t.Fatalf("%.80q came more often than it was sent and doubled", text(k))
	}
}

// 'What follows': what is delivered was sent, by the same nodes with the same
// bytes; and no more often than once, and once for each Double of its likes.
func TestWhatFollows(t *testing.T) {
	for seed := range 60 {
		r := rand.New(rand.NewSource(int64(seed)))
		n, v := fresh(t, 3), ever{}
		for at := range 500 {
			k := packet{1 + r.Intn(3), 1 + r.Intn(3), fmt.Sprint("body ", at)}
			switch do := r.Intn(16); {
			case do < 7 || n.Len() == 0:
				v.send(t, n, k)
			case do < 9:
				v.double(t, n, r.Intn(n.Len()))
			case do < 10:
				v.drop(t, n, r.Intn(n.Len()))
			case do < 11:
				n.Cut(k.from, k.to)
			case do < 12:
				n.Heal()
			default:
				v.deliver(t, n, r.Intn(n.Len()))
			}
		}
		for n.Len() > 0 {
			v.deliver(t, n, 0)
		}
		for body, s := range v {
			if s.left != 0 {
				t.Errorf("run %d: %q: %d were not lost, and have not come", seed, body, s.left)
			}
		}
	}
}

// W7: the same calls make the same net.
func TestSameCallsMakeTheSame(t *testing.T) {
	run := func() string {
		r := rand.New(rand.NewSource(7))
		n, p := fresh(t, 5), &plain{nodes: 5}
		out := ""
		for range 600 {
			what, got, _ := step(r, n, p, 20)
			out += fmt.Sprint(what, got, n.Len(), "\n")
		}
		return out + told(n)
	}
	if run() != run() {
		t.Error("the same calls have made two runs")
	}
}
