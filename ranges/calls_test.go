package ranges

import (
	"slices"
	"strings"
	"testing"

	"purse/api"
)

// A change is a Split or a Merge, and what is wanted of it.
type change struct {
	l    []api.Place
	key  string
	n    int
	e    api.Errno
	want string
}

// splitting fails, if a row's Split is not of that error, or not that map.
func splitting(t *testing.T, rows []change) {
	t.Helper()
	for _, r := range rows {
		if got, e := Split(r.l, r.key, r.n); e != r.e || text(got) != r.want {
			t.Errorf("Split(%s, %q, %d): %s, error %d; want %s, error %d", text(r.l), r.key, r.n, text(got), e, r.want, r.e)
		}
		splits(t, r.l, r.key, r.n)
	}
}

// merging fails, if a row's Merge is not of that error, or not that map.
func merging(t *testing.T, rows []change) {
	t.Helper()
	for _, r := range rows {
		if got, e := Merge(r.l, r.n); e != r.e || text(got) != r.want {
			t.Errorf("Merge(%s, %d): %s, error %d; want %s, error %d", text(r.l), r.n, text(got), e, r.want, r.e)
		}
		merges(t, r.l, r.n)
	}
}

func TestP17_2Split(t *testing.T) {
	o, long := ordinary(), "mmmmmmmmmmmmmmmm"
	splitting(t, []change{
		// Between Froms, just behind one, just below one, and behind all.
		{o, "a", 4, 0, `{3 "" 10} {4 "a" 10} {1 "d" 9} {7 "m" 4} {2 "t" 9}`},
		{o, "\x00", 5, 0, `{3 "" 10} {5 "\x00" 10} {1 "d" 9} {7 "m" 4} {2 "t" 9}`},
		{o, "c\xff", 6, 0, `{3 "" 10} {6 "c\xff" 10} {1 "d" 9} {7 "m" 4} {2 "t" 9}`},
		{o, "d\x00", 4, 0, `{3 "" 2} {1 "d" 10} {4 "d\x00" 10} {7 "m" 4} {2 "t" 9}`},
		{o, "l\xff\xff", 4, 0, `{3 "" 2} {1 "d" 10} {4 "l\xff\xff" 10} {7 "m" 4} {2 "t" 9}`},
		{o, "m\x00", 4, 0, `{3 "" 2} {1 "d" 9} {7 "m" 10} {4 "m\x00" 10} {2 "t" 9}`},
		{o, long, 4, 0, `{3 "" 2} {1 "d" 9} {7 "m" 10} {4 "mmmmmmmmmmmmmmmm" 10} {2 "t" 9}`},
		{o, "t\x00", 4, 0, `{3 "" 2} {1 "d" 9} {7 "m" 4} {2 "t" 10} {4 "t\x00" 10}`},
		{o, "\xff", 4, 0, `{3 "" 2} {1 "d" 9} {7 "m" 4} {2 "t" 10} {4 "\xff" 10}`},
		{o, strings.Repeat("\xff", 16), 4, 0, `{3 "" 2} {1 "d" 9} {7 "m" 4} {2 "t" 10} {4 "\xff\xff\xff\xff\xff\xff\xff\xff\xff\xff\xff\xff\xff\xff\xff\xff" 10}`},
		{list(put(1, "", 1)), "m", 2, 0, `{1 "" 2} {2 "m" 2}`},
		{list(put(7, "", 41)), "\x00", 1, 0, `{7 "" 42} {1 "\x00" 42}`},
		// At a From, and of a group that the map has.
		{o, "d", 4, 171, ""}, {o, "m", 4, 171, ""}, {o, "t", 4, 171, ""}, {o, "d", 1, 171, ""}, {o, "m", 3, 171, ""},
		{o, "a", 3, 171, ""}, {o, "a", 1, 171, ""}, {o, "a", 7, 171, ""}, {o, "a", 2, 171, ""}, {o, "z", 2, 171, ""}, {o, "e", 1, 171, ""}, {list(put(1, "", 1)), "m", 1, 171, ""},
		// A map of as many places as there may be, and of one less.
		{full(), "a", 1, 171, ""}, {full(), "h", 7, 171, ""}, {full(), "b", 7, 171, ""}, {full(), "a", 8, 1, ""}, {full(), "", 1, 1, ""},
		{full()[:6], "h", 7, 0, `{1 "" 1} {2 "b" 1} {3 "c" 1} {4 "d" 1} {5 "e" 1} {6 "f" 2} {7 "h" 2}`},
		{full()[:6], "a", 7, 0, `{1 "" 2} {7 "a" 2} {2 "b" 1} {3 "c" 1} {4 "d" 1} {5 "e" 1} {6 "f" 1}`},
		{full()[:6], "h", 6, 171, ""},
		// Lists that are no map.
		{nil, "a", 4, 21, ""}, {list(), "a", 4, 21, ""}, {list(at(1, "a")), "m", 4, 21, ""}, {append(full(), at(8, "h")), "i", 1, 21, ""},
	})
}

func TestP17_2Keys(t *testing.T) {
	for n := range 300 {
		for _, s := range []string{"a", "m", "z", "\x00", "\xff", "ü"} {
			e := api.OK
			if n < 1 || n > 16 {
				e = api.ErrArg
			}
			key := strings.Repeat(s, n)[:n]
			if s == "m" && n == 1 {
				e = api.ErrTwice
			}
			if _, f := splits(t, ordinary(), key, 4); f != e {
				t.Errorf("Split, a key of %d bytes: error %d; want %d", n, f, e)
			}
		}
	}
	for _, n := range []int{256, 257, 1<<16 + 1, 1 << 20} {
		if l, e := Split(ordinary(), strings.Repeat("a", n), 4); e != api.ErrArg || l != nil {
			t.Errorf("Split, a key of %d bytes: error %d", n, e)
		}
	}
}

func TestP17_2Groups(t *testing.T) {
	for _, group := range append(slices.Clone(edges), 4, 5) {
		e := api.OK
		switch group {
		case 3, 1, 7, 2:
			e = api.ErrTwice
		case 4, 5, 6:
		default:
			e = api.ErrArg
		}
		if _, f := splits(t, ordinary(), "a", group); f != e {
			t.Errorf("Split for %d: error %d; want %d", group, f, e)
		}
		e = api.OK
		switch {
		case group < 1 || group > 7:
			e = api.ErrArg
		case group == 4:
			e = api.ErrTwice
		}
		if _, f := splits(t, list(at(4, "")), "a", group); f != e {
			t.Errorf("Split of one place for %d: error %d; want %d", group, f, e)
		}
	}
}

func TestP17_2Epochs(t *testing.T) {
	for i := range ordinary() {
		for _, p := range []struct {
			epoch int
			e     api.Errno
		}{{9, 0}, {10, 0}, {most - 2, 0}, {most - 1, 0}, {most, 170}} {
			l := aged(ordinary(), i, p.epoch)
			for _, key := range []string{"a", "e", "n", "z"} {
				got, e := splits(t, l, key, 4)
				if e != p.e {
					t.Errorf("Split of %s: error %d; want %d", text(l), e, p.e)
				}
				if e == api.OK && Epoch(got) != p.epoch+1 {
					t.Errorf("Split of %s: the Epoch %d", text(l), Epoch(got))
				}
			}
			if got, e := merges(t, l, i%3); e != p.e || e == api.OK && Epoch(got) != p.epoch+1 {
				t.Errorf("Merge of %s: error %d, the Epoch %d", text(l), e, Epoch(got))
			}
		}
	}
	last, past := list(put(1, "", most-1)), list(put(1, "", most))
	two := list(put(1, "", 1), put(2, "m", most-1))
	splitting(t, []change{
		{last, "m", 2, 0, `{1 "" 4611686018427387904} {2 "m" 4611686018427387904}`}, {past, "m", 2, 170, ""}, {list(put(1, "", most+1)), "m", 2, 21, ""},
		{two, "a", 3, 0, `{1 "" 4611686018427387904} {3 "a" 4611686018427387904} {2 "m" 4611686018427387903}`},
		{past, "m", 1, 171, ""}, {past, "", 2, 1, ""}, {past, "m", 8, 1, ""},
	})
	merging(t, []change{
		{two, "", 0, 0, `{1 "" 4611686018427387904}`}, {aged(two, 1, most), "", 0, 170, ""}, {aged(two, 0, most), "", 0, 170, ""}, {aged(two, 1, most+1), "", 0, 21, ""},
		{last, "", 0, 170, ""}, {past, "", 0, 170, ""},
	})
}

func TestP17_3Merge(t *testing.T) {
	o := ordinary()
	merging(t, []change{
		{o, "", 0, 0, `{3 "" 10} {7 "m" 4} {2 "t" 9}`},
		{o, "", 1, 0, `{3 "" 2} {1 "d" 10} {2 "t" 9}`},
		{o, "", 2, 0, `{3 "" 2} {1 "d" 9} {7 "m" 10}`},
		{o, "", 3, 170, ""}, {o, "", 4, 170, ""}, {o, "", 5, 170, ""}, {o, "", -1, 170, ""}, {o, "", -4, 170, ""},
		{o, "", low, 170, ""}, {o, "", low + 1, 170, ""}, {o, "", top, 170, ""}, {o, "", top - 1, 170, ""},
		{o[:2], "", 0, 0, `{3 "" 10}`}, {o[:2], "", 1, 170, ""}, {o[:2], "", -1, 170, ""},
		{o[:1], "", 0, 170, ""}, {o[:1], "", -1, 170, ""}, {o[:1], "", 1, 170, ""}, {o[:1], "", low, 170, ""}, {o[:1], "", top, 170, ""},
		{full(), "", 0, 0, `{1 "" 2} {3 "c" 1} {4 "d" 1} {5 "e" 1} {6 "f" 1} {7 "g" 1}`},
		{full(), "", 3, 0, `{1 "" 1} {2 "b" 1} {3 "c" 1} {4 "d" 2} {6 "f" 1} {7 "g" 1}`},
		{full(), "", 5, 0, `{1 "" 1} {2 "b" 1} {3 "c" 1} {4 "d" 1} {5 "e" 1} {6 "f" 2}`},
		{full(), "", 6, 170, ""}, {full(), "", 7, 170, ""},
		{nil, "", 0, 21, ""}, {list(), "", 0, 21, ""}, {list(at(1, ""), at(1, "m")), "", 0, 21, ""}, {list(at(1, ""), at(2, "")), "", 0, 21, ""}, {list(at(1, "a"), at(2, "m")), "", 0, 21, ""},
	})
	for _, i := range edges {
		for n := 1; n <= 7; n++ {
			e := api.OK
			if i < 0 || i > n-2 {
				e = api.ErrPlace
			}
			if _, f := merges(t, full()[:n], i); f != e {
				t.Errorf("Merge of %d places, %d: error %d; want %d", n, i, f, e)
			}
		}
	}
}

func TestP17_4Within(t *testing.T) {
	rows := []struct {
		lo, hi, key string
		is          bool
	}{
		{"b", "d", "a", false}, {"b", "d", "b", true}, {"b", "d", "c", true}, {"b", "d", "d", false}, {"b", "d", "e", false},
		{"b", "d", "a\xff", false}, {"b", "d", "b\x00", true}, {"b", "d", "c\xff\xff", true}, {"b", "d", "d\x00", false}, {"b", "d", "", false},
		// No end.
		{"b", "", "a", false}, {"b", "", "b", true}, {"b", "", "z", true}, {"b", "", "", false}, {"b", "", strings.Repeat("\xff", 40), true}, {"", "", "", true}, {"", "", "x", true},
		// From the beginning on.
		{"", "b", "", true}, {"", "b", "a", true}, {"", "b", "b", false}, {"", "\x00", "", true}, {"", "\x00", "\x00", false},
		// Both alike, and hi below lo: nothing is within.
		{"b", "b", "a", false}, {"b", "b", "b", false}, {"b", "b", "c", false},
		{"d", "b", "a", false}, {"d", "b", "b", false}, {"d", "b", "c", false}, {"d", "b", "d", false}, {"d", "b", "e", false},
		// A text is below each longer one that begins with it.
		{"b", "b\x00", "b", true}, {"b", "b\x00", "b\x00", false}, {"b\x00", "c", "b", false}, {"b", "bb", "ba", true}, {"b", "bb", "bb", false}, {"b", "bb", "bba", false},
		{"B", "b", "a", true}, {"b", "\xff", "ü", true}, {"10", "9", "1", false}, {"10", "9", "2", true},
	}
	for _, r := range rows {
		if is := Within(r.lo, r.hi, r.key); is != r.is {
			t.Errorf("Within(%q, %q, %q): %v", r.lo, r.hi, r.key, is)
		}
	}
	for i, lo := range rising {
		for j, hi := range rising {
			for n, key := range rising {
				if is := Within(lo, hi, key); is != (n >= i && (n < j || j == 0)) {
					t.Errorf("Within(%q, %q, %q): %v", lo, hi, key, is)
				}
			}
		}
	}
}

// toldOf is what All of l tells, as one line, left behind so many places.
func toldOf(l []api.Place, count int) string {
	out, n := "", 0
	for end, p := range All(l) {
		if n == count {
			break
		}
		n++
		out += text(list(p)) + " to " + end + "; "
	}
	return out
}

func TestP17_4All(t *testing.T) {
	if s := toldOf(ordinary(), 9); s != `{3 "" 2} to d; {1 "d" 9} to m; {7 "m" 4} to t; {2 "t" 9} to ; ` {
		t.Errorf("All: %s", s)
	}
	for n, want := range []string{"", `{3 "" 2} to d; `, `{3 "" 2} to d; {1 "d" 9} to m; `, `{3 "" 2} to d; {1 "d" 9} to m; {7 "m" 4} to t; `} {
		if s := toldOf(ordinary(), n); s != want {
			t.Errorf("All, left behind %d: %s", n, s)
		}
	}
	if s := toldOf(ordinary()[:1], 9); s != `{3 "" 2} to ; ` {
		t.Errorf("All of one place: %s", s)
	}
	for n := 1; n <= 7; n++ {
		numbers(t, full()[:n])
	}
	if All(nil) == nil || All(list()) == nil || toldOf(nil, 9) != "" || toldOf(list(), 9) != "" {
		t.Error("All of no place is nil, or tells some")
	}
}

// Whoever has enough is not asked again.
func TestP17_4AllLeftEarly(t *testing.T) {
	for enough := range 8 {
		n := 0
		All(full())(func(end string, p api.Place) bool {
			n++
			return n < enough
		})
		if want := min(max(enough, 1), 7); n != want {
			t.Errorf("left behind %d: told %d", enough, n)
		}
	}
}

// What is told may be gone through more than once, and once within another time.
func TestP17_4AllAgain(t *testing.T) {
	all, n := All(full()), 0
	for range all {
		break
	}
	for i, p := range all {
		for j, q := range all {
			if i == j && p == q {
				n++
			}
		}
	}
	if n != 7 {
		t.Errorf("gone through within another time: %d alike", n)
	}
}

// Whichever of the reasons for a refusal hold: the first one of the chapter's is
// told.
func TestOrderOfErrors(t *testing.T) {
	for set := range 1 << 6 {
		is := func(i int) bool { return set>>i&1 == 1 }
		l, key, group := ordinary(), "e", 4
		if is(1) {
			key = strings.Repeat("e", 17)
		}
		if is(2) {
			group = 8
		}
		if is(3) && !is(2) {
			group = 7
		}
		if is(4) && !is(1) {
			key = "m"
		}
		if is(5) {
			l[3].Epoch = most
		}
		i := 2
		if is(3) {
			i = 3
		}
		if is(0) {
			l[1].From = ""
		}
		want, merge := api.OK, api.OK
		switch {
		case is(0):
			want = api.ErrForm
		case is(1), is(2):
			want = api.ErrArg
		case is(3), is(4):
			want = api.ErrTwice
		case is(5):
			want = api.ErrPlace
		}
		if _, e := splits(t, l, key, group); e != want {
			t.Errorf("Split, reasons %06b: error %d; want %d", set, e, want)
		}
		switch {
		case is(0):
			merge = api.ErrForm
		case is(3), is(5):
			merge = api.ErrPlace
		}
		if _, e := merges(t, l, i); e != merge {
			t.Errorf("Merge, reasons %06b: error %d; want %d", set, e, merge)
		}
	}
}
