package net

import (
	"fmt"
	"strings"
	"testing"

	"purse/api"
)

// spoil writes over all of b, and over the room behind its end.
func spoil(b []byte) {
	for i := range b[:cap(b)] {
		b[:cap(b)][i] = '!'
	}
}

func TestR3SendKeepsACopy(t *testing.T) {
	n := fresh(t, 2)
	room := []byte("abcdef")
	want(t, "Send", n.Send(1, 2, room[:2]), api.OK)
	want(t, "Send", n.Send(2, 1, room[2:4]), api.OK)
	want(t, "Send refused", n.Send(0, 1, room), api.ErrArg)
	if string(room) != "abcdef" {
		t.Errorf("what was handed in is %q", room)
	}
	spoil(room)
	stands(t, "what was handed in was changed", n, "1>2:ab", "2>1:cd")
}

func TestR3DeliverHandsOutACopy(t *testing.T) {
	n := fresh(t, 2)
	send(t, n, 1, 2, "ab")
	n.Double(0)
	n.Double(1)
	f, all := n.Fork(), n.All()
	p, _ := n.Deliver(1)
	q, _ := n.Deliver(0)
	spoil(p.Body)
	if string(q.Body) != "ab" {
		t.Errorf("two that were delivered share memory: %q", q.Body)
	}
	spoil(q.Body)
	stands(t, "what was delivered was changed", n, "1>2:ab")
	stands(t, "the fork", f, "1>2:ab", "1>2:ab", "1>2:ab")
	for i, p := range all {
		if text(p) != "1>2:ab" {
			t.Errorf("All, asked ahead of it: %d: %q", i, text(p))
		}
	}
	f.Double(0)
	p, _ = f.Deliver(0)
	spoil(p.Body)
	stands(t, "the fork, when one of its own was changed", f, "1>2:ab", "1>2:ab", "1>2:ab")
	stands(t, "the net, when one of its fork's was changed", n, "1>2:ab")
}

func TestP6_5AllHandsOutCopies(t *testing.T) {
	n := fresh(t, 2)
	send(t, n, 1, 2, "ab")
	send(t, n, 2, 1, "cd")
	n.Double(0)
	all := n.All()
	for range 3 {
		var got []string
		for _, p := range all {
			got = append(got, text(p))
			spoil(p.Body)
		}
		if s := strings.Join(got, " "); s != "1>2:ab 2>1:cd 1>2:ab" {
			t.Errorf("All: %q", s)
		}
	}
	stands(t, "what All told was changed", n, "1>2:ab", "2>1:cd", "1>2:ab")
	var bodies [][]byte
	for range 2 {
		for _, p := range all {
			bodies = append(bodies, p.Body)
		}
	}
	spoil(bodies[0])
	spoil(bodies[4])
	if s := fmt.Sprintf("%s", bodies[1:4]); s != "[cd ab ab]" {
		t.Errorf("bodies of All share memory: %s", s)
	}
	comes(t, n, 2, "1>2:ab")
}

func TestP6_5AllAsItIsWhenAsked(t *testing.T) {
	n := fresh(t, 3)
	none := n.All()
	send(t, n, 1, 2, "a")
	send(t, n, 2, 3, "b")
	send(t, n, 3, 1, "c")
	all := n.All()
	comes(t, n, 0, "1>2:a")
	want(t, "Drop", n.Drop(1), api.OK)
	want(t, "Double", n.Double(0), api.OK)
	n.Cut(1, 2)
	send(t, n, 2, 2, "d")
	stands(t, "the net has gone on", n, "2>3:b", "2>3:b", "2>2:d")
	for range 2 {
		var got []string
		for i, p := range all {
			got = append(got, fmt.Sprintf("%d=%s", i, text(p)))
		}
		if s := strings.Join(got, " "); s != "0=1>2:a 1=2>3:b 2=3>1:c" {
			t.Errorf("All, asked ahead of changes: %q", s)
		}
	}
	for i, p := range none {
		t.Errorf("All of an empty net, asked ahead of changes: %d, %q", i, text(p))
	}
}

func TestP6_5AllLeftInItsMidst(t *testing.T) {
	n := crowd(t, 6)
	before := told(n)
	all := n.All()
	for most := range 7 {
		seen := 0
		for i := range all {
			if i != seen {
				t.Errorf("the place %d is told as the %d-th", i, seen)
			}
			if seen++; seen > most {
				break
			}
		}
		if seen != min(most+1, 6) {
			t.Errorf("left behind %d: %d were told", most+1, seen)
		}
	}
	if told(n) != before || n.Len() != 6 {
		t.Errorf("All that was left has changed the net: %q", told(n))
	}
}

// What is done to a net while it is gone through does not touch what is told.
func TestP6_5ChangesWithinAll(t *testing.T) {
	n := crowd(t, 6)
	before := told(n)
	var got []string
	for i, p := range n.All() {
		got = append(got, text(p))
		switch i % 3 {
		case 0:
			n.Deliver(0)
		case 1:
			send(t, n, 3, 3, "x")
		case 2:
			n.Drop(n.Len() - 1)
		}
	}
	if s := strings.Join(got, " "); s != before {
		t.Errorf("All told %q; want %q", s, before)
	}
}

// Two that go through one iterator, one within the other, don't meet.
func TestP6_5AllWithinAll(t *testing.T) {
	all := crowd(t, 4).All()
	count := 0
	for range all {
		for range all {
			count++
		}
	}
	if count != 16 {
		t.Errorf("%d steps; want 16", count)
	}
}

func TestP6_5ForkIsAlike(t *testing.T) {
	n := crowd(t, 5)
	n.Cut(3, 1)
	f := n.Fork()
	if f.Len() != 5 || told(f) != told(n) {
		t.Errorf("a fork: %d under way: %q; want %q", f.Len(), told(f), told(n))
	}
	want(t, "Send to no node", f.Send(1, 4, nil), api.ErrArg)
	lost(t, f, 3, [2]int{1, 3})
	lost(t, n, 3, [2]int{1, 3})
	if e := fresh(t, 1).Fork(); e.Len() != 0 || e.Cut(1, 2) != api.ErrArg || e.Send(1, 1, nil) != api.OK {
		t.Error("a fork of an empty net is not alike")
	}
	whole := crowd(t, api.MaxPackets).Fork()
	want(t, "Send of one more, in a fork", whole.Send(1, 1, nil), api.ErrFull)
	want(t, "Double of one more, in a fork", whole.Double(0), api.ErrFull)
}

// turn does each kind of change once.
func turn(t *testing.T, n *Net) {
	t.Helper()
	send(t, n, 1, 1, "new")
	want(t, "Double", n.Double(0), api.OK)
	want(t, "Drop", n.Drop(1), api.OK)
	comes(t, n, 0, "1>1:0")
	want(t, "Cut", n.Cut(2, 3), api.OK)
}

func TestP6_5ForksGoTheirOwnWays(t *testing.T) {
	for _, first := range []bool{true, false} {
		n := crowd(t, 4)
		n.Cut(1, 2)
		f := n.Fork()
		changed, other := n, f
		if first {
			changed, other = f, n
		}
		turn(t, changed)
		stands(t, "the one that was not changed", other, "1>1:0", "2>1:1", "3>1:2", "1>2:3")
		stands(t, "the one that was changed", changed, "3>1:2", "1>2:3", "1>1:new", "1>1:0")
		lost(t, other, 3, [2]int{1, 2})
		lost(t, changed, 3, [2]int{1, 2}, [2]int{2, 3})
		changed.Heal()
		lost(t, other, 3, [2]int{1, 2})
		lost(t, changed, 3)
	}
}

// A fork has no room in common: what each one sends stands in its own net.
func TestP6_5ForksSendApart(t *testing.T) {
	n := crowd(t, 5)
	n.Drop(4)
	n.Drop(3)
	f := n.Fork()
	g := f.Fork()
	send(t, n, 1, 2, "n")
	send(t, f, 1, 2, "f")
	send(t, g, 1, 2, "g")
	stands(t, "the net", n, "1>1:0", "2>1:1", "3>1:2", "1>2:n")
	stands(t, "its fork", f, "1>1:0", "2>1:1", "3>1:2", "1>2:f")
	stands(t, "the fork's fork", g, "1>1:0", "2>1:1", "3>1:2", "1>2:g")
}
