package clock

import (
	"fmt"
	"math"
	"strings"
	"testing"

	"purse/api"
)

// want fails, if a call has answered another error.
func want(t testing.TB, what string, got, e api.Errno) {
	t.Helper()
	if got != e {
		t.Errorf("%s: error %d; want %d", what, got, e)
	}
}

// set sets a timer, which is to be taken.
func set(t testing.TB, c *Clock, name string, in int) {
	t.Helper()
	want(t, fmt.Sprintf("Set(%q, %d)", name, in), c.Set(name, in), api.OK)
}

// due fails, if a timer is not set to be due at that time; at 0: if it is set.
func due(t testing.TB, c *Clock, name string, at int) {
	t.Helper()
	if got, is := c.Due(name); got != at || is != (at != 0) {
		t.Errorf("Due(%q): %d, %v; want %d", name, got, is, at)
	}
}

// stop fails, if Stop tells otherwise of a timer.
func stop(t testing.TB, c *Clock, name string, was bool) {
	t.Helper()
	if is := c.Stop(name); is != was {
		t.Errorf("Stop(%q): %v; want %v", name, is, was)
	}
}

// stands fails, if it is another time, or others are set than these names.
func stands(t testing.TB, what string, c *Clock, now int, names string) {
	t.Helper()
	if s := strings.Join(c.Names(), " "); c.Now() != now || s != names {
		t.Errorf("%s: Now %d, Names %.200q; want %d, %.200q", what, c.Now(), s, now, names)
	}
}

// ticks fails, if one Tick for each of these tells other names.
func ticks(t testing.TB, c *Clock, tells ...string) {
	t.Helper()
	for _, names := range tells {
		now := c.Now()
		if s := strings.Join(c.Tick(), " "); s != names || c.Now() != now+1 {
			t.Errorf("Tick: %.200q at %d; want %.200q at %d", s, c.Now(), names, now+1)
		}
	}
}

// number is a timer's name of a number.
func number(i int) string { return fmt.Sprintf("t%02d", i) }

// crowded is a clock with so many timers, t00, t01, .. all due in as many ticks.
func crowded(t testing.TB, timers, in int) (*Clock, string) {
	t.Helper()
	c := New()
	var names []string
	for i := range timers {
		set(t, c, number(i), in)
		names = append(names, number(i))
	}
	return c, strings.Join(names, " ")
}

func TestExamples(t *testing.T) {
	c := New()
	set(t, c, "a", 2)
	set(t, c, "b", 1)
	set(t, c, "c", 2)
	ticks(t, c, "b", "a c", "")
	for _, c := range []*Clock{c, New()} {
		set(t, c, "a", 1)
		set(t, c, "b", 1)
		set(t, c, "a", 1)
		ticks(t, c, "b a", "")
	}
}

func TestP7_1New(t *testing.T) {
	c, d := New(), New()
	if c == nil || d == nil || c == d {
		t.Fatal("New: nil, or the same clock twice")
	}
	stands(t, "New", c, 0, "")
	for _, name := range []string{"", "a", "0"} {
		due(t, c, name, 0)
	}
	set(t, c, "a", 1)
	ticks(t, c, "a")
	stands(t, "another one went on", d, 0, "")
	stands(t, "New behind others", New(), 0, "")
}

func TestP7_1SetNames(t *testing.T) {
	good := []string{
		"a", " ", "\x00", "\xff", "\n",
		strings.Repeat("n", api.MaxName-1), strings.Repeat("n", api.MaxName), strings.Repeat("\xff", api.MaxName),
		strings.Repeat("é", api.MaxName/2), // texts are bytes: a rune may be more than one
	}
	for _, name := range good {
		c := New()
		set(t, c, name, 1)
		due(t, c, name, 1)
		stands(t, "Set", c, 0, name)
		ticks(t, c, name, "")
	}
	bad := []string{
		"", strings.Repeat("n", api.MaxName+1), strings.Repeat("\x00", api.MaxName+1),
		strings.Repeat("é", api.MaxName/2) + "n", strings.Repeat("n", 1000*api.MaxName),
	}
	for _, name := range bad {
		c := New()
		want(t, fmt.Sprintf("Set(%.40q)", name), c.Set(name, 1), api.ErrArg)
		due(t, c, name, 0)
		stop(t, c, name, false)
		stands(t, "Set that is refused", c, 0, "")
		ticks(t, c, "")
	}
}

// Names that begin alike, or look alike, are names of unlike timers.
func TestP7_1UnlikeNames(t *testing.T) {
	c := New()
	names := []string{"a", "A", "aa", "a\x00", "\x00a", "\x00", "a "}
	for i, name := range names {
		set(t, c, name, i+1)
	}
	for i, name := range names {
		due(t, c, name, i+1)
	}
	due(t, c, "", 0)
	due(t, c, "\x00\x00", 0)
	stop(t, c, "a", true)
	ticks(t, c, "", "A", "aa", "a\x00", "\x00a", "\x00", "a ", "")
}

func TestP7_1SetIn(t *testing.T) {
	for _, now := range []int{0, 1, 5} {
		for _, in := range []int{1, 2, 1000, math.MaxInt32 - 1, math.MaxInt32} {
			c := New()
			for range now {
				c.Tick()
			}
			set(t, c, "a", in)
			due(t, c, "a", now+in)
			stands(t, "Set", c, now, "a")
		}
		for _, in := range []int{0, -1, -2, math.MinInt32, math.MinInt, math.MaxInt32 + 1, math.MaxInt32 + 2, 1 << 32, 1<<32 + 1, math.MaxInt} {
			c := New()
			for range now {
				c.Tick()
			}
			want(t, fmt.Sprintf("Set(a, %d)", in), c.Set("a", in), api.ErrArg)
			due(t, c, "a", 0)
			stands(t, "Set that is refused", c, now, "")
			ticks(t, c, "")
		}
	}
}

// A timer of the greatest in is due at its time also where it is set late.
func TestP7_1FarTimers(t *testing.T) {
	c := New()
	set(t, c, "far", math.MaxInt32)
	for range 100_000 {
		c.Tick()
	}
	set(t, c, "farther", math.MaxInt32)
	set(t, c, "near", math.MaxInt32-100_001)
	due(t, c, "far", math.MaxInt32)
	due(t, c, "farther", 100_000+math.MaxInt32)
	due(t, c, "near", math.MaxInt32-1)
	stands(t, "far timers", c, 100_000, "near far farther")
}

// A Set that is refused leaves a timer of that name as it is, at its place in
// the order.
func TestP7_1SetRefusedChangesNothing(t *testing.T) {
	c := New()
	for _, name := range []string{"a", "b", "c"} {
		set(t, c, name, 2)
	}
	for _, in := range []int{0, -1, math.MinInt, math.MaxInt32 + 1, math.MaxInt} {
		want(t, fmt.Sprintf("Set(a, %d)", in), c.Set("a", in), api.ErrArg)
	}
	want(t, "Set of no name", c.Set("", 1), api.ErrArg)
	want(t, "Set of a long name", c.Set("a"+strings.Repeat("n", api.MaxName), 1), api.ErrArg)
	due(t, c, "a", 2)
	stands(t, "Sets that are refused", c, 0, "a b c")
	ticks(t, c, "", "a b c", "")
}

func TestP7_1SetWhenFull(t *testing.T) {
	c, names := crowded(t, api.MaxTimers, 3)
	stands(t, "as many as may be", c, 0, names)
	for range 2 {
		want(t, "one more", c.Set("x", 1), api.ErrFull)
		want(t, "one more", c.Set("y", math.MaxInt32), api.ErrFull)
	}
	due(t, c, "x", 0)
	stop(t, c, "x", false)
	stands(t, "one more that is refused", c, 0, names)

	set(t, c, number(0), 3)
	names = names[len("t00 "):] + " t00"
	stands(t, "one that is set is set once more", c, 0, names)
	want(t, "one more", c.Set("x", 1), api.ErrFull)
	set(t, c, number(7), 1)
	set(t, c, number(8), 2)
	want(t, "one more", c.Set("x", 1), api.ErrFull)
	names = strings.Replace(names, "t07 t08 ", "", 1)
	stands(t, "others are set once more", c, 0, "t07 t08 "+names)

	ticks(t, c, "t07")
	set(t, c, "x", 2)
	want(t, "one more", c.Set("t07", 1), api.ErrFull)
	stop(t, c, "t40", true)
	set(t, c, "t07", 2)
	want(t, "one more", c.Set("t40", 2), api.ErrFull)
	names = strings.Replace(names, "t40 ", "", 1)
	ticks(t, c, "t08", names+" x t07", "")
	crowd, _ := crowded(t, api.MaxTimers-1, 1)
	set(t, crowd, "x", 1)
	want(t, "one more", crowd.Set("y", 1), api.ErrFull)
}

// R5: ErrNil is named first, then ErrArg, then ErrFull.
func TestP7_1OrderOfErrors(t *testing.T) {
	long := strings.Repeat("n", api.MaxName+1)
	c, names := crowded(t, api.MaxTimers, 2)
	var none *Clock
	for _, in := range []int{-1, 0, 1, math.MaxInt32, math.MaxInt32 + 1} {
		for _, name := range []string{"", "x", "t00", long} {
			e := api.ErrArg
			if name == "x" && in >= 1 && in <= math.MaxInt32 {
				e = api.ErrFull
			} else if name == "t00" && in >= 1 && in <= math.MaxInt32 {
				continue
			}
			want(t, fmt.Sprintf("full: Set(%.20q, %d)", name, in), c.Set(name, in), e)
			want(t, fmt.Sprintf("nil: Set(%.20q, %d)", name, in), none.Set(name, in), api.ErrNil)
		}
	}
	stands(t, "all of that is refused", c, 0, names)
}

func TestP7_1SetOnceMore(t *testing.T) {
	for _, first := range []int{1, 3, 5} {
		for _, then := range []int{1, 2, 3, 4, 5, 9} {
			c := New()
			set(t, c, "a", first)
			set(t, c, "b", 3)
			set(t, c, "a", then)
			due(t, c, "a", then)
			due(t, c, "b", 3)
			for now := 1; now < 12; now++ {
				var tells []string
				if now == 3 {
					tells = append(tells, "b")
				}
				if now == then {
					tells = append(tells, "a") // set behind b, where both are due at once
				}
				ticks(t, c, strings.Join(tells, " "))
			}
			stands(t, "all are told", c, 11, "")
		}
	}
}

// A timer is set once more when a part of its time is over: it is due by the
// later Set alone.
func TestP7_1SetOnceMoreLater(t *testing.T) {
	c := New()
	set(t, c, "a", 3)
	set(t, c, "b", 3)
	ticks(t, c, "", "")
	set(t, c, "a", 1) // at the same time as before, behind b now
	due(t, c, "a", 3)
	stands(t, "set to the same time", c, 2, "b a")
	set(t, c, "b", 3)
	due(t, c, "b", 5)
	ticks(t, c, "a")
	set(t, c, "a", 2)
	due(t, c, "a", 5)
	ticks(t, c, "", "b a", "", "")
	for range 4 {
		set(t, c, "a", 2)
		ticks(t, c, "")
	}
	ticks(t, c, "a", "")
}

func TestP7_1StopAndDue(t *testing.T) {
	c := New()
	stop(t, c, "a", false)
	set(t, c, "a", 2)
	set(t, c, "b", 2)
	set(t, c, "c", 1)
	due(t, c, "a", 2)
	due(t, c, "d", 0)
	due(t, c, "", 0)
	stop(t, c, "d", false)
	stop(t, c, "", false)
	stop(t, c, strings.Repeat("a", 1000), false)
	stands(t, "Stop of what is not set", c, 0, "c a b")
	stop(t, c, "a", true)
	due(t, c, "a", 0)
	stop(t, c, "a", false)
	due(t, c, "b", 2)
	due(t, c, "c", 1)
	stands(t, "Stop", c, 0, "c b")
	ticks(t, c, "c")
	due(t, c, "c", 0)
	stop(t, c, "c", false)
	stands(t, "Stop of what was told", c, 1, "b")
	set(t, c, "a", 1)
	due(t, c, "a", 2)
	ticks(t, c, "b a")
	stop(t, c, "a", false)
	stop(t, c, "b", false)
	stands(t, "all are told", c, 2, "")
}

// What was stopped, or told, and is set anew, is the last of its time.
func TestP7_1SetBehindStop(t *testing.T) {
	c := New()
	for _, name := range []string{"a", "b", "c"} {
		set(t, c, name, 2)
	}
	stop(t, c, "a", true)
	set(t, c, "a", 2)
	stands(t, "set behind Stop", c, 0, "b c a")
	set(t, c, "b", 1)
	ticks(t, c, "b")
	set(t, c, "b", 1)
	ticks(t, c, "c a b", "")
}

// One is stopped of many, each one in its turn: the others stand as they did.
func TestP7_1StopEach(t *testing.T) {
	for gone := range api.MaxTimers {
		c := New()
		for i := range api.MaxTimers {
			set(t, c, number(i), 1+i*29%31) // two or three of each time
		}
		var left []string
		for _, name := range c.Names() {
			if name != number(gone) {
				left = append(left, name)
			}
		}
		stop(t, c, number(gone), true)
		stands(t, fmt.Sprintf("Stop of %d", gone), c, 0, strings.Join(left, " "))
		var told []string
		for range 31 {
			told = append(told, c.Tick()...)
		}
		if s := strings.Join(told, " "); s != strings.Join(left, " ") {
			t.Errorf("Stop of %d: told are %q; want %q", gone, s, left)
		}
	}
}
