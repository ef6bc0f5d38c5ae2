package clock

import (
	"strings"
	"testing"

	"purse/api"
)

func TestP7_2TickWithNothingSet(t *testing.T) {
	c := New()
	for now := 1; now <= 1000; now++ {
		if l := c.Tick(); len(l) != 0 || c.Now() != now {
			t.Fatalf("Tick: %q at %d; want nothing at %d", l, c.Now(), now)
		}
	}
	set(t, c, "a", 1)
	due(t, c, "a", 1001)
	ticks(t, c, "a", "", "")
	set(t, c, "b", 1)
	stop(t, c, "b", true)
	ticks(t, c, "")
	stands(t, "nothing is set any more", c, 1004, "")
}

func TestP7_2TickAtItsTime(t *testing.T) {
	for in := 1; in <= 70; in++ {
		c := New()
		ticks(t, c, "")
		set(t, c, "a", in)
		for range in - 1 {
			ticks(t, c, "")
			due(t, c, "a", in+1)
		}
		ticks(t, c, "a")
		due(t, c, "a", 0)
		ticks(t, c, "", "")
	}
}

// orders is all orders of some names.
func orders(names []string) [][]string {
	if len(names) == 0 {
		return [][]string{nil}
	}
	var all [][]string
	for i := range names {
		var rest []string
		rest = append(append(rest, names[:i]...), names[i+1:]...)
		for _, order := range orders(rest) {
			all = append(all, append([]string{names[i]}, order...))
		}
	}
	return all
}

// Those that are due at one time are told as they were set, whatever their
// names, and whenever they were set.
func TestP7_2OneTime(t *testing.T) {
	for _, order := range orders([]string{"a", "b", "c", "d", "e"}) {
		at1, late := New(), New()
		set(t, at1, "y", 2)
		for i, name := range order {
			set(t, at1, name, 1)
			set(t, late, name, len(order)-i)
			if i < len(order)-1 {
				ticks(t, late, "")
			}
		}
		s := strings.Join(order, " ")
		stands(t, "set at once", at1, 0, s+" y")
		stands(t, "set one by one", late, len(order)-1, s)
		ticks(t, at1, s, "y", "")
		ticks(t, late, s, "")
	}
}

// Those that are set once more go behind the others of their time, in the order
// of their last Sets.
func TestP7_2OneTimeSetOnceMore(t *testing.T) {
	for _, order := range orders([]string{"a", "b", "c", "d"}) {
		for many := range len(order) + 1 {
			c := New()
			for _, name := range []string{"a", "b", "c", "d"} {
				set(t, c, name, 2)
			}
			first := "a b c d "
			for _, name := range order[:many] {
				set(t, c, name, 2)
				first = strings.Replace(first, name+" ", "", 1)
			}
			s := strings.TrimSpace(first + strings.Join(order[:many], " "))
			stands(t, "set once more", c, 0, s)
			ticks(t, c, "", s, "")
		}
	}
}

// Of unlike times the earlier one is told first, whichever was set first.
func TestP7_2NamesByTime(t *testing.T) {
	for _, order := range orders([]string{"a", "b", "c", "d", "e"}) {
		c := New()
		for _, name := range order {
			set(t, c, name, 1+int(name[0]-'a'))
		}
		stands(t, "unlike times", c, 0, "a b c d e")
		ticks(t, c, "a", "b")
		stands(t, "unlike times", c, 2, "c d e")
		ticks(t, c, "c", "d", "e", "")
	}
}

func TestP7_2AllAtOnce(t *testing.T) {
	c, names := crowded(t, api.MaxTimers, 7)
	stands(t, "all at once", c, 0, names)
	ticks(t, c, "", "", "", "", "", "", names, "")
	stands(t, "all are told", c, 8, "")
	for i := range api.MaxTimers {
		set(t, c, number(i), api.MaxTimers-i)
	}
	for i := range api.MaxTimers {
		ticks(t, c, number(api.MaxTimers-1-i))
	}
	ticks(t, c, "")
}

// Names and Due are questions: they change nothing.
func TestP7_2Questions(t *testing.T) {
	c := New()
	for i := range 20 {
		set(t, c, number(i), 20-i)
	}
	set(t, c, "x", 20)
	f := c.Fork()
	for range 20 {
		for range 3 {
			c.Names()
			c.Now()
			c.Due("x")
			c.Due("none")
			c.Fork()
		}
		ticks(t, c, strings.Join(f.Tick(), " "))
	}
	stands(t, "all are told", c, 20, "")
}

func TestP7_2Nil(t *testing.T) {
	var c *Clock
	for range 2 {
		for _, name := range []string{"", "a", strings.Repeat("a", api.MaxName+1)} {
			want(t, "Set", c.Set(name, 1), api.ErrNil)
			want(t, "Set", c.Set(name, 0), api.ErrNil)
			stop(t, c, name, false)
			due(t, c, name, 0)
		}
		if c.Now() != 0 || len(c.Tick()) != 0 || len(c.Names()) != 0 || c.Fork() != nil {
			t.Error("Now, Tick, Names or Fork of a nil clock is not zero")
		}
	}
}

// pairOf is a clock with some timers, and its fork.
func pairOf(t testing.TB) (c, f *Clock) {
	t.Helper()
	c = New()
	ticks(t, c, "")
	set(t, c, "z", 3)
	for _, name := range []string{"a", "b", "c"} {
		set(t, c, name, 2)
	}
	set(t, c, "a", 2)
	return c, c.Fork()
}

func TestP7_2ForkIsAlike(t *testing.T) {
	c, f := pairOf(t)
	for _, c := range []*Clock{f, f.Fork(), c.Fork(), c} {
		stands(t, "Fork", c, 1, "b c a z")
		for name, at := range map[string]int{"a": 3, "b": 3, "c": 3, "z": 4, "x": 0} {
			due(t, c, name, at)
		}
		set(t, c, "d", 2) // behind those that were set ahead of the fork
		stands(t, "Fork", c, 1, "b c a d z")
		ticks(t, c, "", "b c a d", "z", "")
	}
	stands(t, "a fork of a new one", New().Fork(), 0, "")
	full, names := crowded(t, api.MaxTimers, 1)
	full = full.Fork()
	want(t, "a fork of a full one", full.Set("x", 1), api.ErrFull)
	set(t, full, "t63", 1)
	ticks(t, full, names)
	set(t, full, "x", 1)
	ticks(t, full, "x")
}

func TestP7_2ForksGoOnByThemselves(t *testing.T) {
	change := map[string]func(c *Clock){
		"Set":       func(c *Clock) { c.Set("x", 1) },
		"Set again": func(c *Clock) { c.Set("b", 1); c.Set("z", 1); c.Set("c", 9) },
		"Stop":      func(c *Clock) { c.Stop("b"); c.Stop("z") },
		"Tick":      func(c *Clock) { c.Tick() },
		"Ticks":     func(c *Clock) { c.Tick(); c.Tick(); c.Set("y", 1); c.Tick() },
		"all": func(c *Clock) {
			for range 9 {
				c.Tick()
			}
			for i := range api.MaxTimers {
				c.Set(number(i), 1+i%3)
			}
		},
	}
	for what, do := range change {
		for _, first := range []bool{true, false} {
			changed, other := pairOf(t)
			if first {
				changed, other = other, changed
			}
			do(changed)
			stands(t, what+" of the other", other, 1, "b c a z")
			due(t, other, "a", 3)
			due(t, other, "x", 0)
			set(t, other, "x", 2)
			stop(t, other, "c", true)
			ticks(t, other, "", "b a x", "z", "")
		}
	}
}

// spoil writes over all of l, and over the room behind its end.
func spoil(l []string) {
	for i := range l[:cap(l)] {
		l[:cap(l)][i] = "!"
	}
}

func TestR3WhatIsHandedOutIsNew(t *testing.T) {
	c := New()
	for i := range 10 {
		set(t, c, number(i), 1+i%2)
	}
	f := c.Fork()
	was := "t00 t02 t04 t06 t08 t01 t03 t05 t07 t09"
	l, m := c.Names(), c.Names()
	spoil(l)
	if s := strings.Join(m, " "); s != was {
		t.Errorf("two lists of Names share memory: %q", s)
	}
	_ = append(m[:0], "?", "?", "?")
	stands(t, "what Names told was changed", c, 0, was)
	stands(t, "the fork", f, 0, was)
	due(t, c, "t00", 1)
	due(t, c, "!", 0)

	l = c.Tick()
	m = c.Names()
	spoil(l)
	if s := strings.Join(m, " "); s != "t01 t03 t05 t07 t09" {
		t.Errorf("what Tick told was changed: Names, asked behind it: %q", s)
	}
	stands(t, "what Tick told was changed", c, 1, "t01 t03 t05 t07 t09")
	stands(t, "the fork", f, 0, was)
	set(t, c, "x", 1)
	m = c.Tick()
	spoil(f.Tick())
	set(t, c, "y", 1)
	c.Tick()
	if s := strings.Join(m, " "); s != "t01 t03 t05 t07 t09 x" {
		t.Errorf("what Tick told has changed: %q", s)
	}
	ticks(t, f, "t01 t03 t05 t07 t09", "")
}
