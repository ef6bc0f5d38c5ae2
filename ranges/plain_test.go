package ranges

import (
	"fmt"
	"math"
	"strings"
	"testing"

	"purse/api"
)

const (
	low = math.MinInt
	top = math.MaxInt
	// most is the greatest number that an Epoch may be.
	most = 1 << 62
)

// edges are numbers at which signs and limits turn.
var edges = []int{low, low + 1, -most - 1, -most, -8, -2, -1, 0, 1, 2, 3, 6, 7, 8, 9, 256 + 1, 1<<32 + 1, most - 1, most, most + 1, top - 1, top}

// rising are texts, each below the next one, byte by byte; the first ones of up to
// 16 bytes.
var rising = []string{"", "\x00", "\x00\x00", "\x00\xff", "\x01", "10", "9", "A", "Z", "a", "a\x00", "aa", "ab", "abc", "abcdefghijklmno", "abcdefghijklmnop", "b", "\x7f", "\x80", "é", "界", "\xff", "\xff\x00", "\xff\xff"}

// at is a place of the Epoch 1.
func at(group int, from string) api.Place { return api.Place{Group: group, From: from, Epoch: 1} }

// put is a place.
func put(group int, from string, epoch int) api.Place {
	return api.Place{Group: group, From: from, Epoch: epoch}
}

// list is a list of places.
func list(l ...api.Place) []api.Place { return l }

// text is places as one line.
func text(l []api.Place) string {
	var out []string
	for _, p := range l {
		out = append(out, fmt.Sprintf("{%d %q %d}", p.Group, p.From, p.Epoch))
	}
	return strings.Join(out, " ")
}

// kept is the groups and the Froms of places as one line, without their Epochs.
func kept(l []api.Place) string {
	var out []string
	for _, p := range l {
		out = append(out, fmt.Sprintf("{%d %q}", p.Group, p.From))
	}
	return strings.Join(out, " ")
}

// ordinary is a map of four places.
func ordinary() []api.Place {
	return list(put(3, "", 2), put(1, "d", 9), put(7, "m", 4), put(2, "t", 9))
}

// full is a map in which each group has a place.
func full() []api.Place {
	return list(at(1, ""), at(2, "b"), at(3, "c"), at(4, "d"), at(5, "e"), at(6, "f"), at(7, "g"))
}

// aged is l with another Epoch in one place.
func aged(l []api.Place, i, epoch int) []api.Place {
	c := append([]api.Place(nil), l...)
	c[i].Epoch = epoch
	return c
}

// below holds two texts against each other byte by byte.
func below(a, b string) bool {
	for i := range min(len(a), len(b)) {
		if a[i] != b[i] {
			return a[i] < b[i]
		}
	}
	return len(a) < len(b)
}

// plainMap asks what the chapter's section 'Words' asks.
func plainMap(l []api.Place) bool {
	if len(l) < 1 || len(l) > 7 || len(l[0].From) != 0 {
		return false
	}
	for i, p := range l {
		if len(p.From) > 16 || p.Group < 1 || p.Group > 7 || p.Epoch < 1 || p.Epoch > most {
			return false
		}
		if i > 0 && !below(l[i-1].From, p.From) {
			return false
		}
		for _, q := range l[i+1:] {
			if p.Group == q.Group {
				return false
			}
		}
	}
	return true
}

// plainHas tells whether the place number i has the key.
func plainHas(l []api.Place, i int, key string) bool {
	return !below(key, l[i].From) && (i == len(l)-1 || below(key, l[i+1].From))
}

// plainFind is the number of the one place of a map that has the key.
func plainFind(t testing.TB, l []api.Place, key string) int {
	t.Helper()
	n, at := 0, -1
	for i := range l {
		if plainHas(l, i, key) {
			n, at = n+1, i
		}
	}
	if n != 1 {
		t.Errorf("%d places of %s have the key %q", n, text(l), key)
	}
	return at
}

// plainEpoch looks at one place behind the other.
func plainEpoch(l []api.Place) int {
	e := 0
	for _, p := range l {
		if p.Epoch > e {
			e = p.Epoch
		}
	}
	return e
}

// plainSplit puts each place behind the other, and the new one behind that which
// has the key.
func plainSplit(l []api.Place, key string, group int) ([]api.Place, api.Errno) {
	if !plainMap(l) {
		return nil, 21
	}
	if len(key) == 0 || len(key) > 16 || group < 1 || group > 7 {
		return nil, 1
	}
	for _, p := range l {
		if p.Group == group || p.From == key {
			return nil, 171
		}
	}
	if plainEpoch(l) == most {
		return nil, 170
	}
	var out []api.Place
	for i, p := range l {
		if !plainHas(l, i, key) {
			out = append(out, p)
			continue
		}
		out = append(out, put(p.Group, p.From, plainEpoch(l)+1), put(group, key, plainEpoch(l)+1))
	}
	return out, 0
}

// plainMerge puts each place behind the other, but the one behind the place
// number at.
func plainMerge(l []api.Place, at int) ([]api.Place, api.Errno) {
	if !plainMap(l) {
		return nil, 21
	}
	is := false
	for i := range len(l) - 1 {
		is = is || i == at
	}
	if !is || plainEpoch(l) == most {
		return nil, 170
	}
	var out []api.Place
	for i, p := range l {
		switch i {
		case at:
			out = append(out, put(p.Group, p.From, plainEpoch(l)+1))
		case at + 1:
		default:
			out = append(out, p)
		}
	}
	return out, 0
}

// checks fails, if Check does not tell what the chapter's words tell.
func checks(t testing.TB, l []api.Place) bool {
	t.Helper()
	is := plainMap(l)
	if e := Check(l); is && e != 0 || !is && e != 21 {
		t.Errorf("Check(%s): error %d; is it a map? %v", text(l), e, is)
	}
	return is
}

// finds fails, if Find does not tell the place of a map that has the key, or if
// that is not the one for whose From and End it is Within.
func finds(t testing.TB, l []api.Place, key string) int {
	t.Helper()
	want := plainFind(t, l, key)
	if i := Find(l, key); i != want {
		t.Errorf("Find(%s, %q): %d; want %d", text(l), key, i, want)
	}
	for i, p := range l {
		if Within(p.From, End(l, i), key) != (i == want) {
			t.Errorf("%s: is %q Within the place %d? %v; want %d", text(l), key, i, i != want, want)
		}
	}
	return want
}

// numbers fails, if Of, End, Epoch or All of a map does not tell what the chapter's
// words tell.
func numbers(t testing.TB, l []api.Place) {
	t.Helper()
	for group := -1; group <= 9; group++ {
		want, has := 0, false
		for i, p := range l {
			if p.Group == group {
				want, has = i, true
			}
		}
		if i, is := Of(l, group); i != want || is != has {
			t.Errorf("Of(%s, %d): %d, %v; want %d, %v", text(l), group, i, is, want, has)
		}
	}
	var ends []string
	for i := range l[1:] {
		ends = append(ends, l[i+1].From)
	}
	ends = append(ends, "")
	for i, want := range append(ends, "", "") {
		if end := End(l, i); end != want {
			t.Errorf("End(%s, %d): %q; want %q", text(l), i, end, want)
		}
	}
	if e := Epoch(l); e != plainEpoch(l) {
		t.Errorf("Epoch(%s): %d; want %d", text(l), e, plainEpoch(l))
	}
	n := 0
	for end, p := range All(l) {
		if n == len(l) || end != ends[n] || p != l[n] {
			t.Fatalf("All(%s): number %d: %q, %s", text(l), n, end, text(list(p)))
		}
		n++
	}
	if n != len(l) {
		t.Errorf("All(%s): %d places", text(l), n)
	}
}

// splits fails, if Split does not answer what the chapter's words make of l. It
// tells what that is.
func splits(t testing.TB, l []api.Place, key string, group int) ([]api.Place, api.Errno) {
	t.Helper()
	want, e := plainSplit(l, key, group)
	got, f := Split(l, key, group)
	if f != e || text(got) != text(want) || e != 0 && got != nil || e == 0 && Check(got) != 0 {
		t.Errorf("Split(%s, %q, %d): %s, error %d; want %s, error %d", text(l), key, group, text(got), f, text(want), e)
	}
	return want, e
}

// merges fails, if Merge does not answer what the chapter's words make of l. It
// tells what that is.
func merges(t testing.TB, l []api.Place, i int) ([]api.Place, api.Errno) {
	t.Helper()
	want, e := plainMerge(l, i)
	got, f := Merge(l, i)
	if f != e || text(got) != text(want) || e != 0 && got != nil || e == 0 && Check(got) != 0 {
		t.Errorf("Merge(%s, %d): %s, error %d; want %s, error %d", text(l), i, text(got), f, text(want), e)
	}
	return want, e
}

// ends has each call asked of l, which may be no map: each ends.
func ends(l []api.Place, key string, n int) {
	Check(l)
	Find(l, key)
	Of(l, n)
	End(l, n)
	Epoch(l)
	Split(l, key, n)
	Merge(l, n)
	for range All(l) {
	}
}
