package net

import (
	"bytes"
	"fmt"
	"math"
	"strings"
	"testing"

	"purse/api"
)

// fresh is a net of so many nodes.
func fresh(t testing.TB, nodes int) *Net {
	t.Helper()
	n, e := New(nodes)
	if n == nil || e != api.OK {
		t.Fatalf("New(%d): error %d", nodes, e)
	}
	return n
}

// want fails, if a call has answered another error.
func want(t testing.TB, what string, got, e api.Errno) {
	t.Helper()
	if got != e {
		t.Errorf("%s: error %d; want %d", what, got, e)
	}
}

// send sends a text, which is to be taken.
func send(t testing.TB, n *Net, from, to int, body string) {
	t.Helper()
	want(t, fmt.Sprintf("Send(%d, %d, %.20q)", from, to, body), n.Send(from, to, []byte(body)), api.OK)
}

// text is a packet in short form: its nodes, and its body.
func text(p api.Packet) string { return fmt.Sprintf("%d>%d:%s", p.From, p.To, p.Body) }

// told is the packets under way in short form; a place that is told wrongly is
// told, too.
func told(n *Net) string {
	var l []string
	for i, p := range n.All() {
		if i != len(l) {
			l = append(l, fmt.Sprintf("place %d as", i))
		}
		l = append(l, text(p))
	}
	return strings.Join(l, " ")
}

// stands fails, if other packets are under way than these, in short form.
func stands(t testing.TB, what string, n *Net, packets ...string) {
	t.Helper()
	if s := strings.Join(packets, " "); n.Len() != len(packets) || told(n) != s {
		t.Errorf("%s: %d under way: %.200q; want %d: %.200q", what, n.Len(), told(n), len(packets), s)
	}
}

// comes fails, if the packet at the place i is another one.
func comes(t testing.TB, n *Net, i int, packet string) {
	t.Helper()
	if p, e := n.Deliver(i); e != api.OK || text(p) != packet {
		t.Errorf("Deliver(%d): error %d, %.80q; want %.80q", i, e, text(p), packet)
	}
}

// refused fails, if Deliver answers another error, or a packet beside it.
func refused(t testing.TB, n *Net, i int, e api.Errno) {
	t.Helper()
	if p, got := n.Deliver(i); got != e || p.From != 0 || p.To != 0 || len(p.Body) != 0 {
		t.Errorf("Deliver(%d): error %d, %.80q; want %d, and a zero packet", i, got, text(p), e)
	}
}

// crowd is a net of three nodes with so many packets, each with its number.
func crowd(t testing.TB, packets int) *Net {
	t.Helper()
	n := fresh(t, 3)
	for i := range packets {
		send(t, n, 1+i%3, 1+i/3%3, fmt.Sprint(i))
	}
	if n.Len() != packets {
		t.Fatalf("%d under way; want %d", n.Len(), packets)
	}
	return n
}

func TestExample(t *testing.T) {
	n := fresh(t, 3)
	send(t, n, 1, 2, "a")
	send(t, n, 2, 3, "b")
	want(t, "Double(0)", n.Double(0), api.OK)
	stands(t, "Double(0)", n, "1>2:a", "2>3:b", "1>2:a")
	want(t, "Drop(1)", n.Drop(1), api.OK)
	stands(t, "Drop(1)", n, "1>2:a", "1>2:a")
	comes(t, n, 1, "1>2:a")
	stands(t, "Deliver(1)", n, "1>2:a")
	refused(t, n, 5, api.ErrNone)
	want(t, "Cut(1, 2)", n.Cut(1, 2), api.OK)
	send(t, n, 2, 1, "c")
	stands(t, "Send between two that are cut", n, "1>2:a")
}

func TestP6_1New(t *testing.T) {
	for nodes := 1; nodes <= api.MaxNodes; nodes++ {
		n := fresh(t, nodes)
		stands(t, fmt.Sprintf("New(%d)", nodes), n)
		refused(t, n, 0, api.ErrNone)
		all := 0
		for from := 1; from <= nodes; from++ {
			for to := 1; to <= nodes; to++ {
				send(t, n, from, to, "x")
				all++
			}
		}
		if n.Len() != all {
			t.Errorf("New(%d): %d of %d packets are under way: something is cut", nodes, n.Len(), all)
		}
	}
	for _, nodes := range []int{0, -1, math.MinInt, api.MaxNodes + 1, math.MaxInt} {
		if n, e := New(nodes); n != nil || e != api.ErrArg {
			t.Errorf("New(%d): error %d; want %d, and no net", nodes, e, api.ErrArg)
		}
	}
}

func TestP6_1NetsAreApart(t *testing.T) {
	a, b := fresh(t, 2), fresh(t, 2)
	send(t, a, 1, 2, "a")
	a.Cut(1, 2)
	send(t, b, 2, 1, "b")
	stands(t, "the one", a, "1>2:a")
	stands(t, "the other", b, "2>1:b")
}

func TestP6_2Nodes(t *testing.T) {
	for nodes := 1; nodes <= api.MaxNodes; nodes++ {
		n := fresh(t, nodes)
		var sure []string
		for _, ends := range [][2]int{{1, 1}, {1, nodes}, {nodes, 1}, {nodes, nodes}} {
			send(t, n, ends[0], ends[1], "x")
			sure = append(sure, fmt.Sprintf("%d>%d:x", ends[0], ends[1]))
		}
		for _, no := range []int{0, -1, -nodes, nodes + 1, math.MinInt, math.MaxInt} {
			for _, ends := range [][2]int{{no, 1}, {1, no}, {nodes, no}, {no, nodes}, {no, no}} {
				want(t, fmt.Sprintf("Send(%d, %d) of %d nodes", ends[0], ends[1], nodes), n.Send(ends[0], ends[1], []byte("y")), api.ErrArg)
			}
		}
		stands(t, fmt.Sprintf("%d nodes", nodes), n, sure...)
	}
}

func TestP6_2Bodies(t *testing.T) {
	whole := make([]byte, api.MaxBody+2)
	for i := range whole {
		whole[i] = byte(i*7 + i/256)
	}
	for _, size := range []int{0, 1, 2, 255, 256, api.MaxBody - 1, api.MaxBody} {
		n := fresh(t, 2)
		want(t, fmt.Sprintf("Send of %d bytes", size), n.Send(1, 2, whole[:size]), api.OK)
		for _, p := range n.All() {
			if p.From != 1 || p.To != 2 || !bytes.Equal(p.Body, whole[:size]) {
				t.Errorf("%d bytes: All tells %d>%d, %d bytes", size, p.From, p.To, len(p.Body))
			}
		}
		p, e := n.Deliver(0)
		if e != api.OK || p.From != 1 || p.To != 2 || !bytes.Equal(p.Body, whole[:size]) {
			t.Errorf("%d bytes: error %d, %d>%d, %d bytes came", size, e, p.From, p.To, len(p.Body))
		}
	}
	n := fresh(t, 2)
	for _, size := range []int{api.MaxBody + 1, api.MaxBody + 2} {
		want(t, fmt.Sprintf("Send of %d bytes", size), n.Send(1, 2, whole[:size]), api.ErrArg)
	}
	stands(t, "bodies that are too long", n)
	want(t, "Send of nil", n.Send(2, 1, nil), api.OK)
	want(t, "Send of no bytes", n.Send(1, 2, []byte{}), api.OK)
	stands(t, "bodies without bytes", n, "2>1:", "1>2:")
	comes(t, n, 0, "2>1:")
	comes(t, n, 0, "1>2:")
}

func TestP6_2OrderOfErrors(t *testing.T) {
	long := make([]byte, api.MaxBody+1)
	var none *Net
	want(t, "nil, no node", none.Send(0, 9, long), api.ErrNil)
	n := crowd(t, api.MaxPackets)
	n.Cut(1, 2)
	before := told(n)
	want(t, "full, from no node", n.Send(0, 1, nil), api.ErrArg)
	want(t, "full, to no node", n.Send(1, 4, nil), api.ErrArg)
	want(t, "full, too long", n.Send(1, 3, long), api.ErrArg)
	want(t, "full, cut, too long", n.Send(1, 2, long), api.ErrArg)
	want(t, "full, cut", n.Send(1, 2, nil), api.OK)
	want(t, "full, cut, turned round", n.Send(2, 1, make([]byte, api.MaxBody)), api.OK)
	want(t, "full", n.Send(1, 3, nil), api.ErrFull)
	if told(n) != before || n.Len() != api.MaxPackets {
		t.Errorf("what is refused, or lost, has changed the net: %d under way", n.Len())
	}
	n.Drop(0)
	want(t, "cut, too long", n.Send(2, 1, long), api.ErrArg)
	want(t, "cut", n.Send(2, 1, nil), api.OK)
	if n.Len() != api.MaxPackets-1 {
		t.Errorf("a packet between two that are cut: %d under way", n.Len())
	}
}

func TestP6_2Full(t *testing.T) {
	n := crowd(t, api.MaxPackets)
	before := told(n)
	for range 2 {
		for _, to := range []int{1, 2, 3} {
			want(t, "Send of one more", n.Send(1, to, []byte("more")), api.ErrFull)
		}
		if told(n) != before || n.Len() != api.MaxPackets {
			t.Fatalf("one more: %d under way", n.Len())
		}
	}
	comes(t, n, 7, "2>3:7")
	send(t, n, 3, 2, "more")
	want(t, "Send of one more again", n.Send(3, 2, nil), api.ErrFull)
	comes(t, n, api.MaxPackets-1, "3>2:more")
	want(t, "Drop", n.Drop(0), api.OK)
	send(t, n, 1, 1, "x")
	send(t, n, 1, 1, "y")
	want(t, "Send of one more at last", n.Send(1, 1, nil), api.ErrFull)
	if n.Len() != api.MaxPackets {
		t.Errorf("%d under way", n.Len())
	}
}

// The full net takes bodies of full length, and tells each of them.
func TestP6_2FullOfLongBodies(t *testing.T) {
	n := fresh(t, 2)
	b := make([]byte, api.MaxBody)
	for i := range api.MaxPackets {
		b[0], b[api.MaxBody-1] = byte(i), byte(i)
		want(t, "Send", n.Send(1, 2, b), api.OK)
	}
	for i, p := range n.Fork().All() {
		if len(p.Body) != api.MaxBody || p.Body[0] != byte(i) || p.Body[api.MaxBody-1] != byte(i) {
			t.Fatalf("the packet %d has another body", i)
		}
	}
}

func TestP6_3EachPlace(t *testing.T) {
	all := []string{"1>1:0", "2>1:1", "3>1:2", "1>2:3", "2>2:4"}
	for i := range all {
		rest := append(append([]string{}, all[:i]...), all[i+1:]...)
		n := crowd(t, len(all))
		comes(t, n, i, all[i])
		stands(t, fmt.Sprintf("Deliver(%d)", i), n, rest...)
		n = crowd(t, len(all))
		want(t, fmt.Sprintf("Drop(%d)", i), n.Drop(i), api.OK)
		stands(t, fmt.Sprintf("Drop(%d)", i), n, rest...)
		n = crowd(t, len(all))
		want(t, fmt.Sprintf("Double(%d)", i), n.Double(i), api.OK)
		stands(t, fmt.Sprintf("Double(%d)", i), n, append(append([]string{}, all...), all[i])...)
	}
}

func TestP6_3NoSuchPlace(t *testing.T) {
	for _, packets := range []int{0, 1, 2, 5, api.MaxPackets} {
		n := crowd(t, packets)
		before := told(n)
		for _, i := range []int{-1, -2, packets, packets + 1, math.MinInt, math.MaxInt} {
			refused(t, n, i, api.ErrNone)
			want(t, fmt.Sprintf("Drop(%d) of %d", i, packets), n.Drop(i), api.ErrNone)
			want(t, fmt.Sprintf("Double(%d) of %d", i, packets), n.Double(i), api.ErrNone)
		}
		if told(n) != before || n.Len() != packets {
			t.Errorf("places that are none have changed a net of %d: %d under way", packets, n.Len())
		}
		if packets == 0 {
			continue
		}
		last := fmt.Sprintf("%d>%d:%d", 1+(packets-1)%3, 1+(packets-1)/3%3, packets-1)
		comes(t, n, packets-1, last)
		refused(t, n, packets-1, api.ErrNone)
	}
}

func TestP6_3TillNothingIsLeft(t *testing.T) {
	n := crowd(t, api.MaxPackets)
	for i := range api.MaxPackets {
		comes(t, n, 0, fmt.Sprintf("%d>%d:%d", 1+i%3, 1+i/3%3, i))
	}
	stands(t, "nothing is left", n)
	refused(t, n, 0, api.ErrNone)
	send(t, n, 2, 2, "x")
	stands(t, "one more", n, "2>2:x")
}

func TestP6_3DoubleFull(t *testing.T) {
	n := fresh(t, 2)
	send(t, n, 1, 2, "a")
	for i := range api.MaxPackets - 1 {
		want(t, "Double", n.Double(i), api.OK)
	}
	for _, i := range []int{0, 1, api.MaxPackets - 1} {
		want(t, fmt.Sprintf("Double(%d) when full", i), n.Double(i), api.ErrFull)
	}
	for _, i := range []int{-1, api.MaxPackets} {
		want(t, fmt.Sprintf("Double(%d) when full", i), n.Double(i), api.ErrNone)
	}
	want(t, "Send when full", n.Send(2, 1, nil), api.ErrFull)
	if n.Len() != api.MaxPackets {
		t.Errorf("%d under way", n.Len())
	}
	want(t, "Drop", n.Drop(3), api.OK)
	want(t, "Double", n.Double(3), api.OK)
	want(t, "Double when full again", n.Double(3), api.ErrFull)
}

// Packets that are under way are doubled, dropped and delivered whether or not
// their nodes are cut.
func TestP6_3PlacesOfNodesThatAreCut(t *testing.T) {
	n := fresh(t, 2)
	send(t, n, 1, 2, "a")
	send(t, n, 2, 1, "b")
	n.Cut(1, 2)
	stands(t, "Cut", n, "1>2:a", "2>1:b")
	want(t, "Double(0)", n.Double(0), api.OK)
	stands(t, "Double(0)", n, "1>2:a", "2>1:b", "1>2:a")
	comes(t, n, 1, "2>1:b")
	want(t, "Drop(0)", n.Drop(0), api.OK)
	comes(t, n, 0, "1>2:a")
	send(t, n, 1, 2, "c")
	stands(t, "Send", n)
	send(t, n, 2, 2, "d")
	for range api.MaxPackets - 1 {
		n.Double(0)
	}
	want(t, "Double when full", n.Double(0), api.ErrFull)
	send(t, n, 1, 2, "e")
}

func TestP6_4Cut(t *testing.T) {
	for nodes := 2; nodes <= api.MaxNodes; nodes++ {
		for a := 1; a <= nodes; a++ {
			for b := 1; b <= nodes; b++ {
				if a == b {
					continue
				}
				n := fresh(t, nodes)
				want(t, fmt.Sprintf("Cut(%d, %d)", a, b), n.Cut(a, b), api.OK)
				lost(t, n, nodes, [2]int{a, b})
			}
		}
	}
}

// lost fails, if others are cut from one another than these pairs.
func lost(t testing.TB, n *Net, nodes int, cuts ...[2]int) {
	t.Helper()
	for from := 1; from <= nodes; from++ {
		for to := 1; to <= nodes; to++ {
			cut := 0
			for _, c := range cuts {
				if c == [2]int{from, to} || c == [2]int{to, from} {
					cut = 1
				}
			}
			before := n.Len()
			send(t, n, from, to, "x")
			if n.Len() != before+1-cut {
				t.Errorf("cut %v: Send(%d, %d): %d under way; want %d", cuts, from, to, n.Len(), before+1-cut)
			}
		}
	}
}

func TestP6_4CutOfNoPair(t *testing.T) {
	for nodes := 1; nodes <= api.MaxNodes; nodes++ {
		n := fresh(t, nodes)
		for node := 1; node <= nodes; node++ {
			want(t, fmt.Sprintf("Cut(%d, %d)", node, node), n.Cut(node, node), api.ErrArg)
		}
		for _, no := range []int{0, -1, nodes + 1, math.MinInt, math.MaxInt} {
			for _, ends := range [][2]int{{no, 1}, {1, no}, {nodes, no}, {no, nodes}, {no, no}} {
				want(t, fmt.Sprintf("Cut(%d, %d) of %d nodes", ends[0], ends[1], nodes), n.Cut(ends[0], ends[1]), api.ErrArg)
			}
		}
		stands(t, "Cuts that are refused", n)
		lost(t, n, nodes)
	}
}

func TestP6_4CutAgain(t *testing.T) {
	n := fresh(t, 4)
	for _, ends := range [][2]int{{1, 2}, {1, 2}, {2, 1}, {4, 3}, {3, 4}, {2, 1}} {
		want(t, fmt.Sprintf("Cut(%d, %d)", ends[0], ends[1]), n.Cut(ends[0], ends[1]), api.OK)
	}
	lost(t, n, 4, [2]int{1, 2}, [2]int{3, 4})
	want(t, "Heal", n.Heal(), api.OK)
	lost(t, n, 4)
	want(t, "Cut", n.Cut(2, 1), api.OK)
	lost(t, n, 4, [2]int{1, 2})
	want(t, "Cut", n.Cut(1, 4), api.OK)
	want(t, "Cut of one node", n.Cut(4, 4), api.ErrArg)
	lost(t, n, 4, [2]int{1, 2}, [2]int{1, 4})
}

func TestP6_4CutOfAll(t *testing.T) {
	n := fresh(t, api.MaxNodes)
	var cuts [][2]int
	for a := 1; a <= api.MaxNodes; a++ {
		for b := a + 1; b <= api.MaxNodes; b++ {
			want(t, "Cut", n.Cut(b, a), api.OK)
			cuts = append(cuts, [2]int{a, b})
		}
	}
	lost(t, n, api.MaxNodes, cuts...)
	want(t, "Heal", n.Heal(), api.OK)
	lost(t, n, api.MaxNodes)
}

func TestP6_4Heal(t *testing.T) {
	n := fresh(t, 3)
	want(t, "Heal with nothing cut", n.Heal(), api.OK)
	stands(t, "Heal with nothing cut", n)
	send(t, n, 1, 2, "a")
	n.Cut(1, 2)
	send(t, n, 1, 2, "b")
	want(t, "Heal", n.Heal(), api.OK)
	stands(t, "what was lost does not come back", n, "1>2:a")
	want(t, "Heal again", n.Heal(), api.OK)
	send(t, n, 2, 1, "c")
	stands(t, "Heal", n, "1>2:a", "2>1:c")
	n.Cut(1, 2)
	send(t, n, 2, 1, "d")
	stands(t, "Cut behind Heal", n, "1>2:a", "2>1:c")
}

func TestP6_5Nil(t *testing.T) {
	var n *Net
	for _, i := range []int{-1, 0, 1} {
		want(t, "Send", n.Send(i, i, nil), api.ErrNil)
		want(t, "Send", n.Send(1, 2, make([]byte, api.MaxBody+i)), api.ErrNil)
		refused(t, n, i, api.ErrNil)
		want(t, "Drop", n.Drop(i), api.ErrNil)
		want(t, "Double", n.Double(i), api.ErrNil)
		want(t, "Cut", n.Cut(i, 1), api.ErrNil)
		want(t, "Cut", n.Cut(1, 2), api.ErrNil)
		want(t, "Heal", n.Heal(), api.ErrNil)
	}
	if n.Len() != 0 || n.Fork() != nil {
		t.Error("Len or Fork of a nil net is not zero")
	}
	if n.All() == nil {
		t.Fatal("All of a nil net is nil")
	}
	for i, p := range n.All() {
		t.Errorf("All of a nil net tells %d, %v", i, p)
	}
}
