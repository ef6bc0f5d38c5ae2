package ranges

import (
	"fmt"
	"slices"
	"strings"
	"testing"

	"purse/api"
)

// isMap fails, if l is not a map as is says. Of what is none each call ends, and
// Split and Merge say so first, whatever their other arguments are.
func isMap(t *testing.T, what string, l []api.Place, is bool) {
	t.Helper()
	if checks(t, l) != is {
		t.Fatalf("%s: the words have it that %s is a map: %v", what, text(l), !is)
	}
	for _, key := range []string{"", "m", "mm", strings.Repeat("k", 16), strings.Repeat("k", 17)} {
		for _, n := range []int{low, -1, 0, 1, 4, 7, 8, top} {
			if is {
				splits(t, l, key, n)
				merges(t, l, n)
				continue
			}
			ends(l, key, n)
			if got, e := Split(l, key, n); e != api.ErrForm || got != nil {
				t.Errorf("%s: Split(%q, %d): %s, error %d", what, key, n, text(got), e)
			}
			if got, e := Merge(l, n); e != api.ErrForm || got != nil {
				t.Errorf("%s: Merge(%d): %s, error %d", what, n, text(got), e)
			}
		}
		if is {
			finds(t, l, key)
		}
	}
	if is {
		numbers(t, l)
	}
}

func TestExample(t *testing.T) {
	l, e := Split(list(put(1, "", 1)), "m", 2)
	if text(l) != `{1 "" 2} {2 "m" 2}` || e != api.OK {
		t.Errorf("Split(m, 2): %s, error %d", text(l), e)
	}
	if i := Find(l, "m"); i != 1 {
		t.Errorf("Find(m): %d", i)
	}
	if i := Find(l, "a"); i != 0 {
		t.Errorf("Find(a): %d", i)
	}
	if k, e := Split(l, "m", 3); k != nil || e != api.ErrTwice {
		t.Errorf("Split(m, 3): %s, error %d", text(k), e)
	}
	if k, e := Merge(l, 0); text(k) != `{1 "" 3}` || e != api.OK {
		t.Errorf("Merge(0): %s, error %d", text(k), e)
	}
}

func TestP17_1Counts(t *testing.T) {
	isMap(t, "nil", nil, false)
	isMap(t, "empty", list(), false)
	for n := 1; n <= 7; n++ {
		isMap(t, "places", full()[:n], true)
		isMap(t, "places, and the last one twice", append(full()[:n], full()[n-1]), false)
		isMap(t, "places, and a zero one", append(full()[:n], api.Place{}), false)
	}
	for group := range 10 {
		isMap(t, "one place more than groups", append(full(), at(group, "h")), false)
		isMap(t, "two places more than groups", append(full(), at(group, "h"), at(9, "i")), false)
	}
	isMap(t, "a zero place", list(api.Place{}), false)
	isMap(t, "zero places", make([]api.Place, 7), false)
	isMap(t, "many zero places", make([]api.Place, 100), false)
	isMap(t, "ordinary", ordinary(), true)
}

// Very long lists are no maps, whatever is in them; each call of them ends.
func TestP17_1VeryLong(t *testing.T) {
	rise, same := make([]api.Place, 1<<18), make([]api.Place, 1<<18)
	for i := range rise {
		rise[i] = put(i+1, fmt.Sprintf("%08d", i)[:min(8, 8*i)], 1+i)
		same[i] = at(1, "")
	}
	for _, l := range [][]api.Place{rise, same, make([]api.Place, 1<<18)} {
		for _, n := range []int{-1, 0, 5, len(l) - 2, len(l) - 1, len(l), top} {
			ends(l, "m", n)
			ends(l, "", n)
			if got, e := Split(l, "m", n); e != api.ErrForm || got != nil {
				t.Errorf("Split: %d places, error %d", len(got), e)
			}
			if got, e := Merge(l, n); e != api.ErrForm || got != nil {
				t.Errorf("Merge: %d places, error %d", len(got), e)
			}
		}
		if e := Check(l); e != api.ErrForm {
			t.Errorf("Check: error %d", e)
		}
	}
}

func TestP17_1FirstFrom(t *testing.T) {
	for _, from := range rising {
		isMap(t, "one place", list(at(1, from)), from == "")
		isMap(t, "two places", list(at(1, from), at(2, "\xff\xff\xff")), from == "")
		isMap(t, "two places, the second with no key ahead", list(at(1, from), at(2, from)), false)
	}
	isMap(t, "an empty From behind another", list(at(1, "a"), at(2, "")), false)
	isMap(t, "an empty From twice", list(at(1, ""), at(2, "")), false)
	isMap(t, "an empty From in the end", list(at(1, ""), at(2, "a"), at(3, "")), false)
}

func TestP17_1FromsRise(t *testing.T) {
	for i, a := range rising[1:] {
		for j, b := range rising[1:] {
			isMap(t, "two Froms", list(at(1, ""), at(2, a), at(3, b)), i < j)
			isMap(t, "two Froms, of two Epochs", list(put(1, "", 3), put(2, a, 9), put(3, b, 8)), i < j)
			isMap(t, "two Froms, behind others", list(at(7, ""), at(2, "\x00\x00\x00"), at(1, a), at(3, b)), i < j && i > 1)
		}
	}
	for i := range full() {
		for j := range i {
			l := full()
			l[i].From = l[j].From
			isMap(t, "a From twice", l, false)
			l = full()
			l[i].From, l[j].From = l[j].From, l[i].From
			isMap(t, "Froms that fall", l, false)
			l = full()
			l[i], l[j] = l[j], l[i]
			isMap(t, "places that fall", l, false)
		}
	}
}

func TestP17_1FromsOfBytes(t *testing.T) {
	for _, n := range []int{1, 2, 15, 16, 17, 18, 32, 256, 257, 272, 65537} {
		for _, s := range []string{"k", "\x00", "\xff", "ü", "a\x00"} {
			from, is := strings.Repeat(s, n)[:n], n <= 16
			what := fmt.Sprintf("a From of %d bytes", n)
			isMap(t, what, list(at(1, ""), at(2, from)), is)
			isMap(t, what, list(at(1, ""), at(2, from), at(3, "\xff\xff\xff\xff\xff\xff\xff\xff\xff\xff\xff\xff\xff\xff\xff\xff")), is && from[:min(n, 16)] != strings.Repeat("\xff", 16))
			isMap(t, what, list(at(7, ""), at(6, "\x00"), at(2, from)), is && from != "\x00")
			isMap(t, what+" in the beginning", list(at(1, from)), false)
		}
	}
}

func TestP17_1Groups(t *testing.T) {
	for _, a := range edges {
		may := a >= 1 && a <= 7
		isMap(t, "the group of one", list(at(a, "")), may)
		for _, b := range edges {
			isMap(t, "the groups of two", list(at(a, ""), at(b, "k")), may && b >= 1 && b <= 7 && a != b)
			isMap(t, "the groups of three, next to each other", list(at(4, ""), at(a, "k"), at(b, "l")), may && b >= 1 && b <= 7 && a != b && a != 4 && b != 4)
			isMap(t, "the groups of three, apart", list(at(a, ""), at(5, "k"), at(b, "l")), may && b >= 1 && b <= 7 && a != b && a != 5 && b != 5)
		}
		for i := range full() {
			l := full()
			l[i].Group = a
			isMap(t, "one of all groups", l, a == i+1)
			l = full()[:i+1]
			l[i].Group = a
			isMap(t, "the last of some groups", l, may && a > i)
		}
	}
	for i := range full() {
		for j := range full() {
			l := full()
			l[i].Group = l[j].Group
			isMap(t, "a group twice", l, i == j)
			l = full()
			l[i].Group, l[j].Group = l[j].Group, l[i].Group
			isMap(t, "groups in any order", l, true)
		}
	}
}

func TestP17_1Epochs(t *testing.T) {
	for _, epoch := range edges {
		may := epoch >= 1 && epoch <= 1<<62
		isMap(t, "the Epoch of one", list(put(1, "", epoch)), may)
		for i := range ordinary() {
			isMap(t, "an Epoch", aged(ordinary(), i, epoch), may)
		}
		for i := range full() {
			isMap(t, "an Epoch of many", aged(full(), i, epoch), may)
		}
		l := ordinary()
		for i := range l {
			l[i].Epoch = epoch
		}
		isMap(t, "all Epochs alike", l, may)
	}
	for i, want := range []int{9, 9, 9, 9} {
		if e := Epoch(aged(ordinary(), i, 1)); e != want {
			t.Errorf("Epoch, %d of 1: %d", i, e)
		}
		for _, epoch := range []int{9, 10, 1000, most - 1, most} {
			if e := Epoch(aged(ordinary(), i, epoch)); e != epoch {
				t.Errorf("Epoch, %d of %d: %d", i, epoch, e)
			}
		}
	}
	for epoch, l := range map[int][]api.Place{1: full(), 4: ordinary()[2:3], 2: ordinary()[:1]} {
		if e := Epoch(l); e != epoch {
			t.Errorf("Epoch(%s): %d; want %d", text(l), e, epoch)
		}
	}
}

func TestP17_1Find(t *testing.T) {
	long := strings.Repeat("m", 1000)
	rows := []struct {
		key  string
		want int
	}{
		{"", 0}, {"\x00", 0}, {"a", 0}, {"c", 0}, {"c\xff", 0}, {"c\xff\xff\xff\xff\xff\xff\xff\xff\xff\xff\xff\xff\xff\xff\xff", 0}, {"c" + strings.Repeat("\xff", 100), 0},
		{"d", 1}, {"d\x00", 1}, {"da", 1}, {"e", 1}, {"l", 1}, {"l\xff\xff", 1}, {"l" + strings.Repeat("\xff", 100), 1},
		{"m", 2}, {"m\x00", 2}, {long[:16], 2}, {long[:17], 2}, {long, 2}, {"s", 2}, {"s\xff", 2}, {"s" + long, 2},
		{"t", 3}, {"t\x00", 3}, {"t" + long, 3}, {"z", 3}, {"\x7f", 3}, {"\x80", 3}, {"ü", 3}, {"界", 3}, {"\xff", 3}, {strings.Repeat("\xff", 16), 3}, {strings.Repeat("\xff", 1000), 3},
		{"T", 0}, {"M", 0}, {"1", 0}, {"D", 0}, {"d"[:0], 0},
	}
	for _, r := range rows {
		if i := Find(ordinary(), r.key); i != r.want {
			t.Errorf("Find(%q): %d; want %d", r.key, i, r.want)
		}
		finds(t, ordinary(), r.key)
		if i := Find(list(at(5, "")), r.key); i != 0 {
			t.Errorf("Find(%q) in one place: %d", r.key, i)
		}
	}
	for i, p := range full() {
		for _, key := range []string{p.From, p.From + "\x00", p.From + "A", p.From + strings.Repeat("\xff", 16)} {
			if at := Find(full(), key); at != i && key != strings.Repeat("\xff", 16) {
				t.Errorf("Find(%q): %d; want %d", key, at, i)
			}
		}
	}
	for i, a := range rising[1:] {
		for j, b := range rising[i+2:] {
			l := list(at(4, ""), at(3, a), at(6, b))
			for n, key := range rising {
				want := 0
				if n > i {
					want++
				}
				if n > i+j+1 {
					want++
				}
				if got := finds(t, l, key); got != want {
					t.Errorf("the words have it that %s has %q in %d; want %d", text(l), key, got, want)
				}
			}
		}
	}
}

// What is just below a From that ends in a zero byte is a text that it begins with.
func TestP17_1FindBesideZeroBytes(t *testing.T) {
	l := list(at(1, ""), at(2, "\x00"), at(3, "m\x00"), at(4, "m\x00\x00"), at(5, strings.Repeat("n", 16)))
	for key, want := range map[string]int{
		"": 0, "\x00": 1, "\x00\x00": 1, "l\xff": 1, "m": 1, "m\x00": 2, "m\x00\x00": 3, "m\x00\x00\x00": 3, "m\x01": 3,
		strings.Repeat("n", 15): 3, strings.Repeat("n", 15) + "m\xff": 3, strings.Repeat("n", 16): 4, strings.Repeat("n", 17): 4, strings.Repeat("n", 16) + "\x00": 4, "o": 4,
	} {
		if i := Find(l, key); i != want {
			t.Errorf("Find(%q): %d; want %d", key, i, want)
		}
		finds(t, l, key)
	}
}

func TestP17_1Of(t *testing.T) {
	want := map[int]int{3: 0, 1: 1, 7: 2, 2: 3}
	for _, group := range append(slices.Clone(edges), 4, 5) {
		n, has := want[group]
		if i, is := Of(ordinary(), group); i != n || is != has {
			t.Errorf("Of(%d): %d, %v; want %d, %v", group, i, is, n, has)
		}
		if i, is := Of(full(), group); is != (group >= 1 && group <= 7) || is && i != group-1 || !is && i != 0 {
			t.Errorf("Of(%d) of all groups: %d, %v", group, i, is)
		}
		if i, is := Of(list(at(6, "")), group); i != 0 || is != (group == 6) {
			t.Errorf("Of(%d) of one place: %d, %v", group, i, is)
		}
	}
}

func TestP17_1End(t *testing.T) {
	want := map[int]string{0: "d", 1: "m", 2: "t"}
	for _, i := range append(slices.Clone(edges), 4, 5) {
		if end := End(ordinary(), i); end != want[i] {
			t.Errorf("End(%d): %q; want %q", i, end, want[i])
		}
		if end := End(list(at(1, "")), i); end != "" {
			t.Errorf("End(%d) of one place: %q", i, end)
		}
		if end, is := End(full(), i), i >= 0 && i < 6; is && end != string(rune('b'+i)) || !is && end != "" {
			t.Errorf("End(%d) of seven places: %q", i, end)
		}
		if end, is := End(full()[:2], i), i == 0; is && end != "b" || !is && end != "" {
			t.Errorf("End(%d) of two places: %q", i, end)
		}
	}
}
