package deal

import (
	"slices"
	"strings"
	"testing"

	"purse/api"
)

func TestP18_2Open(t *testing.T) {
	b := api.Deal{Client: 8, Seq: most, Key: "b", Other: "a", N: top}
	rows := []struct {
		l    []api.Deal
		d    api.Deal
		e    api.Errno
		want string
	}{
		{nil, of(1, 1), 0, `{1:1 "a">"b" 5 0/0 0}`},
		{list(), b, 0, `{8:4611686018427387904 "b">"a" 9223372036854775807 0/0 0}`},
		{list(of(2, 2)), of(1, 1), 0, `{2:2 "a">"b" 5 0/0 0} {1:1 "a">"b" 5 0/0 0}`},
		{list(of(2, 2)), of(2, 1), 0, `{2:2 "a">"b" 5 0/0 0} {2:1 "a">"b" 5 0/0 0}`},
		{list(of(2, 2)), of(2, 3), 0, `{2:2 "a">"b" 5 0/0 0} {2:3 "a">"b" 5 0/0 0}`},
		{ordinary(), of(4, 4), 0, `{3:7 "a">"b" 5 1/0 0} {1:7 "a">"b" 5 1/1 1} {3:2 "a">"b" 5 0/0 2} {4:4 "a">"b" 5 0/0 0}`},
		{ordinary(), b, 0, `{3:7 "a">"b" 5 1/0 0} {1:7 "a">"b" 5 1/1 1} {3:2 "a">"b" 5 0/0 2} {8:4611686018427387904 "b">"a" 9223372036854775807 0/0 0}`},
		{full(), of(4, 4), 3, ""}, {full(), b, 3, ""}, {full()[:3], b, 0, `{2:9 "a">"b" 5 0/0 0} {8:1 "a">"b" 5 1/0 0} {2:8 "a">"b" 5 0/1 0} {8:4611686018427387904 "b">"a" 9223372036854775807 0/0 0}`},
		// One that is there, whatever its state, and whatever else is there.
		{list(of(1, 1)), of(1, 1), 171, ""}, {ordinary(), of(3, 7), 171, ""}, {ordinary(), of(1, 7), 171, ""}, {ordinary(), of(3, 2), 171, ""},
		{full(), of(2, 9), 171, ""}, {full(), of(8, 1), 171, ""}, {full(), of(2, 8), 171, ""}, {full(), of(1, most), 171, ""},
		// One of which something is said, or that is decided.
		{nil, put(1, 1, 1, 0, 0), 1, ""}, {nil, put(1, 1, 0, 1, 0), 1, ""}, {nil, put(1, 1, 0, 0, 2), 1, ""}, {nil, put(1, 1, 1, 1, 1), 1, ""}, {nil, put(1, 1, 2, 0, 2), 1, ""}, {nil, put(1, 1, 0, 2, 2), 1, ""},
		{nil, put(1, 1, 0, 0, 1), 1, ""}, {nil, put(1, 1, 0, 0, -1), 1, ""}, {nil, api.Deal{}, 1, ""}, {full(), api.Deal{}, 1, ""},
		// Lists that are no books.
		{list(api.Deal{}), of(1, 1), 21, ""}, {list(of(1, 1), of(1, 1)), of(2, 2), 21, ""}, {append(full(), of(7, 7)), of(6, 6), 21, ""}, {list(put(1, 1, 1, 1, 0)), of(2, 2), 21, ""},
	}
	for _, r := range rows {
		if got, e := Open(r.l, r.d); e != r.e || text(got) != r.want {
			t.Errorf("Open(%s, %s): %s, error %d; want %s, error %d", text(r.l), line(r.d), text(got), e, r.want, r.e)
		}
		opens(t, r.l, r.d)
	}
}

// One behind the other, up to as many as there may be, whatever their states.
func TestP18_2Full(t *testing.T) {
	for _, s := range states {
		var l []api.Deal
		for i := range 7 {
			r := opens(t, l, of(1+i, 9-i))
			if i >= 4 {
				if r.e != api.ErrFull {
					t.Errorf("the deal number %d: error %d", i, r.e)
				}
				continue
			}
			if r.e != api.OK {
				t.Errorf("the deal number %d: error %d", i, r.e)
			}
			l = append(l, put(1+i, 9-i, s[0], s[1], s[2]))
		}
		// One is forgotten, if it is decided: then there is room again.
		k, e := Forget(l, 2, 8)
		if decided := s[2] != 0; decided != (e == api.OK) {
			t.Errorf("Forget(%s): error %d", text(l), e)
		}
		if e == api.OK {
			if r := opens(t, k, of(2, 8)); r.e != api.OK {
				t.Errorf("Open of %s: error %d", text(k), r.e)
			}
		}
	}
}

// A word is what a side says of a deal in the state from, what that makes of it, and
// whether it is decided by this; and whether Give decides it instead.
type word struct {
	from       [3]int
	mine, yes  bool
	to         [3]int
	now, given bool
}

// said are all words in all states, written out.
func said() []word {
	type s = [3]int
	return []word{
		{s{0, 0, 0}, true, true, s{1, 0, 0}, false, true}, {s{0, 0, 0}, true, false, s{2, 0, 2}, true, true}, {s{0, 0, 0}, false, true, s{0, 1, 0}, false, true}, {s{0, 0, 0}, false, false, s{0, 2, 2}, true, true},
		{s{1, 0, 0}, true, true, s{1, 0, 0}, false, true}, {s{1, 0, 0}, true, false, s{1, 0, 0}, false, true}, {s{1, 0, 0}, false, true, s{1, 1, 1}, true, true}, {s{1, 0, 0}, false, false, s{1, 2, 2}, true, true},
		{s{0, 1, 0}, true, true, s{1, 1, 1}, true, true}, {s{0, 1, 0}, true, false, s{2, 1, 2}, true, true}, {s{0, 1, 0}, false, true, s{0, 1, 0}, false, true}, {s{0, 1, 0}, false, false, s{0, 1, 0}, false, true},
		{s{0, 0, 2}, true, true, s{0, 0, 2}, false, false}, {s{0, 0, 2}, true, false, s{0, 0, 2}, false, false}, {s{0, 0, 2}, false, true, s{0, 0, 2}, false, false}, {s{0, 0, 2}, false, false, s{0, 0, 2}, false, false},
		{s{1, 0, 2}, true, true, s{1, 0, 2}, false, false}, {s{1, 0, 2}, true, false, s{1, 0, 2}, false, false}, {s{1, 0, 2}, false, true, s{1, 0, 2}, false, false}, {s{1, 0, 2}, false, false, s{1, 0, 2}, false, false},
		{s{0, 1, 2}, true, true, s{0, 1, 2}, false, false}, {s{0, 1, 2}, true, false, s{0, 1, 2}, false, false}, {s{0, 1, 2}, false, true, s{0, 1, 2}, false, false}, {s{0, 1, 2}, false, false, s{0, 1, 2}, false, false},
		{s{1, 1, 1}, true, true, s{1, 1, 1}, false, false}, {s{1, 1, 1}, true, false, s{1, 1, 1}, false, false}, {s{1, 1, 1}, false, true, s{1, 1, 1}, false, false}, {s{1, 1, 1}, false, false, s{1, 1, 1}, false, false},
		{s{2, 0, 2}, true, true, s{2, 0, 2}, false, false}, {s{2, 0, 2}, true, false, s{2, 0, 2}, false, false}, {s{2, 0, 2}, false, true, s{2, 0, 2}, false, false}, {s{2, 0, 2}, false, false, s{2, 0, 2}, false, false},
		{s{0, 2, 2}, true, true, s{0, 2, 2}, false, false}, {s{0, 2, 2}, true, false, s{0, 2, 2}, false, false}, {s{0, 2, 2}, false, true, s{0, 2, 2}, false, false}, {s{0, 2, 2}, false, false, s{0, 2, 2}, false, false},
		{s{2, 1, 2}, true, true, s{2, 1, 2}, false, false}, {s{2, 1, 2}, true, false, s{2, 1, 2}, false, false}, {s{2, 1, 2}, false, true, s{2, 1, 2}, false, false}, {s{2, 1, 2}, false, false, s{2, 1, 2}, false, false},
		{s{1, 2, 2}, true, true, s{1, 2, 2}, false, false}, {s{1, 2, 2}, true, false, s{1, 2, 2}, false, false}, {s{1, 2, 2}, false, true, s{1, 2, 2}, false, false}, {s{1, 2, 2}, false, false, s{1, 2, 2}, false, false},
		{s{2, 2, 2}, true, true, s{2, 2, 2}, false, false}, {s{2, 2, 2}, true, false, s{2, 2, 2}, false, false}, {s{2, 2, 2}, false, true, s{2, 2, 2}, false, false}, {s{2, 2, 2}, false, false, s{2, 2, 2}, false, false},
	}
}

// crowds are books in which the deal d is by itself, the first, a middle and the
// last one, and how many are ahead of it.
func crowds(d api.Deal) map[int][][]api.Deal {
	return map[int][][]api.Deal{
		0: {list(d), list(d, of(3, 6)), list(d, of(7, 3), put(3, 8, 1, 1, 1), put(4, 7, 0, 0, 2))},
		1: {list(of(3, 6), d), list(put(4, 7, 1, 1, 1), d, put(3, 8, 0, 1, 0))},
		2: {list(of(3, 6), put(4, 7, 2, 0, 2), d), list(of(4, 7), of(2, 7), d, of(3, 8))},
		3: {list(of(3, 6), put(4, 7, 2, 0, 2), put(7, 3, 1, 0, 0), d)},
	}
}

func TestP18_3Say(t *testing.T) {
	for _, w := range said() {
		d := api.Deal{Client: 3, Seq: 7, Key: "k", Other: "o", N: 12}
		for at, lists := range crowds(state(d, w.from[0], w.from[1], w.from[2])) {
			for _, l := range lists {
				want := with(l, at, state(d, w.to[0], w.to[1], w.to[2]))
				got, now, e := Say(l, 3, 7, w.mine, w.yes)
				if e != api.OK || now != w.now || !slices.Equal(got, want) {
					t.Errorf("Say(%s, %v, %v): %s, %v, error %d; want %s, %v", text(l), w.mine, w.yes, text(got), now, e, text(want), w.now)
				}
				says(t, l, 3, 7, w.mine, w.yes)
				// Once more, and otherwise: the side has said it, nothing changes.
				for _, yes := range []bool{true, false} {
					again, now, e := Say(got, 3, 7, w.mine, yes)
					if e != api.OK || now || !slices.Equal(again, want) {
						t.Errorf("Say of %s once more: %s, %v, error %d", text(got), text(again), now, e)
					}
				}
			}
		}
	}
	if n := len(said()); n != 4*len(states) {
		t.Errorf("%d rows", n)
	}
}

func TestP18_3Give(t *testing.T) {
	for _, w := range said() {
		d := api.Deal{Client: 3, Seq: 7, Key: "k", Other: "o", N: 12}
		for at, lists := range crowds(state(d, w.from[0], w.from[1], w.from[2])) {
			for _, l := range lists {
				want := l
				if w.given {
					want = with(l, at, state(d, w.from[0], w.from[1], 2))
				}
				got, now, e := Give(l, 3, 7)
				if e != api.OK || now != w.given || !slices.Equal(got, want) {
					t.Errorf("Give(%s): %s, %v, error %d; want %s, %v", text(l), text(got), now, e, text(want), w.given)
				}
				gives(t, l, 3, 7)
				again, now, e := Give(got, 3, 7)
				if e != api.OK || now || !slices.Equal(again, want) {
					t.Errorf("Give of %s once more: %s, %v, error %d", text(got), text(again), now, e)
				}
				// What is given up hears nobody any more.
				again, now, e = Say(got, 3, 7, w.mine, w.yes)
				if e != api.OK || now || !slices.Equal(again, want) {
					t.Errorf("Say of %s: %s, %v, error %d", text(got), text(again), now, e)
				}
			}
		}
	}
}

func TestP18_4Forget(t *testing.T) {
	for _, s := range states {
		for at, lists := range crowds(put(3, 7, s[0], s[1], s[2])) {
			for _, l := range lists {
				forgets(t, l, 3, 7)
				got, e := Forget(l, 3, 7)
				if s[2] == api.Undecided {
					if e != api.ErrNone || got != nil {
						t.Errorf("Forget(%s): %s, error %d", text(l), text(got), e)
					}
					continue
				}
				want := slices.Concat(l[:at], l[at+1:])
				if e != api.OK || !slices.Equal(got, want) {
					t.Errorf("Forget(%s): %s, error %d; want %s", text(l), text(got), e, text(want))
				}
				if again, e := Forget(got, 3, 7); e != api.ErrNone || again != nil {
					t.Errorf("Forget of %s once more: %s, error %d", text(got), text(again), e)
				}
				if _, is := Find(got, 3, 7); is {
					t.Errorf("%s is not forgotten", text(got))
				}
			}
		}
	}
}

// No deal has such numbers: those that are near, at both ends of int, past all
// ranges.
func TestP18_3None(t *testing.T) {
	for _, l := range [][]api.Deal{nil, {}, list(of(1, 1)), ordinary(), full(), full()[2:]} {
		for _, client := range edges {
			for _, seq := range append(slices.Clone(edges), 5, 6) {
				touches(t, l, client, seq)
				if _, is := plainFind(l, client, seq); is {
					continue
				}
				a, now, e := Say(l, client, seq, seq&1 == 0, client&1 == 0)
				b, given, f := Give(l, client, seq)
				c, g := Forget(l, client, seq)
				if e != api.ErrNone || f != api.ErrNone || g != api.ErrNone || a != nil || b != nil || c != nil || now || given {
					t.Errorf("%s, %d, %d: errors %d, %d, %d", text(l), client, seq, e, f, g)
				}
			}
		}
	}
}

// Just the numbers tell which deal is meant, not its keys, nor where it stands.
func TestP18_3Each(t *testing.T) {
	l := list(of(3, 7), of(7, 3), of(3, 3), of(7, 7))
	for i, d := range l {
		for j, s := range []string{`1/0 0`, `2/0 2`, `0/1 0`, `0/2 2`} {
			got, now, e := Say(l, d.Client, d.Seq, j < 2, j%2 == 0)
			if e != api.OK || now != (j%2 == 1) {
				t.Errorf("%v, error %d", now, e)
			}
			for k := range got {
				want := line(l[k])
				if k == i {
					want = strings.Replace(want, "0/0 0", s, 1)
				}
				if line(got[k]) != want {
					t.Errorf("Say of the number %d: the number %d is %s; want %s", i, k, line(got[k]), want)
				}
			}
		}
		touches(t, l, d.Client, d.Seq)
	}
}

// Of several errors the first one that the chapter names: no books, no such
// argument, twice, full.
func TestOrderOfErrors(t *testing.T) {
	for reasons := range 1 << 4 {
		l, d, want := full()[:3], of(4, 4), api.OK
		if reasons&8 != 0 {
			l, want = full(), api.ErrFull
		}
		if reasons&4 != 0 {
			d.Client, d.Seq, want = 2, 8, api.ErrTwice
		}
		if reasons&2 != 0 {
			d.N, want = 0, api.ErrArg
		}
		if reasons&1 != 0 {
			l[0].N, want = 0, api.ErrForm
		}
		if got, e := Open(l, d); e != want || e != api.OK && got != nil {
			t.Errorf("reasons %b: error %d; want %d", reasons, e, want)
		}
		opens(t, l, d)
	}
	for reasons := range 1 << 3 {
		l, seq, want, gone := ordinary(), 7, api.OK, api.OK
		if reasons&4 != 0 {
			l[0], gone = put(3, 7, 0, 0, 0), api.ErrNone
		} else {
			l[0] = put(3, 7, 0, 0, 2)
		}
		if reasons&2 != 0 {
			seq, want, gone = 8, api.ErrNone, api.ErrNone
		}
		if reasons&1 != 0 {
			l[2].Key, want, gone = "b", api.ErrForm, api.ErrForm
		}
		_, _, e := Say(l, 3, seq, true, true)
		_, _, f := Give(l, 3, seq)
		_, g := Forget(l, 3, seq)
		if e != want || f != want || g != gone {
			t.Errorf("reasons %b: errors %d, %d, %d; want %d, %d", reasons, e, f, g, want, gone)
		}
		touches(t, l, 3, seq)
	}
	bad := ends(end(2, 1), end(1, 1))
	for _, n := range [][2]int{{0, 1}, {1, 0}, {9, 1}, {1, most + 1}, {1, 1}} {
		if got, e := Raise(bad, n[0], n[1]); e != api.ErrForm || got != nil {
			t.Errorf("Raise of no ends: %s, error %d", endText(got), e)
		}
	}
}
