package deal

import (
	"slices"
	"strings"
	"testing"

	"purse/api"
)

func TestExample(t *testing.T) {
	l, e := Open(nil, api.Deal{Client: 1, Seq: 1, Key: "a", Other: "b", N: 5})
	if s := text(l); e != api.OK || s != `{1:1 "a">"b" 5 0/0 0}` {
		t.Fatalf("%s, error %d", s, e)
	}
	l, now, e := Say(l, 1, 1, true, true)
	if s := text(l); e != api.OK || now || s != `{1:1 "a">"b" 5 1/0 0}` {
		t.Fatalf("%s, %v, error %d", s, now, e)
	}
	l, now, e = Say(l, 1, 1, false, true)
	if s := text(l); e != api.OK || !now || s != `{1:1 "a">"b" 5 1/1 1}` {
		t.Fatalf("%s, %v, error %d", s, now, e)
	}
	l, now, e = Give(l, 1, 1)
	if s := text(l); e != api.OK || now || s != `{1:1 "a">"b" 5 1/1 1}` {
		t.Fatalf("%s, %v, error %d", s, now, e)
	}
	l, e = Open(l, api.Deal{Client: 2, Seq: 9, Key: "b", Other: "a", N: 1})
	if s := text(l); e != api.OK || s != `{1:1 "a">"b" 5 1/1 1} {2:9 "b">"a" 1 0/0 0}` {
		t.Fatalf("%s, error %d", s, e)
	}
	l, now, e = Say(l, 2, 9, false, false)
	if s := text(l); e != api.OK || !now || s != `{1:1 "a">"b" 5 1/1 1} {2:9 "b">"a" 1 0/2 2}` {
		t.Fatalf("%s, %v, error %d", s, now, e)
	}
	if d, is := Find(l, 2, 9); !is || d.Fate != api.Aborted {
		t.Fatalf("%s, %v", line(d), is)
	}
	l, e = Forget(l, 2, 9)
	if d, is := Find(l, 2, 9); e != api.OK || is || d != (api.Deal{}) || text(l) != `{1:1 "a">"b" 5 1/1 1}` {
		t.Fatalf("%s, %s, error %d", text(l), line(d), e)
	}
}

// around tells of a deal by itself, ahead of others and behind others, that it may
// stand in books, or not; and that it may be opened just if nobody has said anything.
func around(t *testing.T, what string, d api.Deal, is bool) {
	t.Helper()
	books(t, what, list(d), is)
	books(t, what+", behind others", append(ordinary(), d), is)
	books(t, what+", ahead of others", append(list(d), ordinary()...), is)
	books(t, what+", between others", slices.Insert(ordinary(), 1, d), is)
	books(t, what+", one too many", append(full(), d), false)
	e := api.ErrArg
	if is && d.Mine == 0 && d.Theirs == 0 && d.Fate == 0 {
		e = api.OK
	}
	for _, l := range [][]api.Deal{nil, {}, ordinary()} {
		if r := opens(t, l, d); r.e != e {
			t.Errorf("%s: Open of %s: error %d; want %d", what, line(d), r.e, e)
		}
	}
	// What may not be opened is told ahead of there being no room.
	if r := opens(t, full(), d); r.e != e && e != api.OK || e == api.OK && r.e != api.ErrFull {
		t.Errorf("%s: Open of %s behind four: error %d", what, line(d), r.e)
	}
}

func TestP18_1Clients(t *testing.T) {
	for _, client := range edges {
		around(t, "a Client", of(client, 5), client >= 1 && client <= 8)
	}
	for client := -300; client <= 300; client++ {
		if is := client >= 1 && client <= 8; checks(t, list(of(client, 5))) != is {
			t.Errorf("the Client %d", client)
		}
	}
}

func TestP18_1Seqs(t *testing.T) {
	for _, seq := range edges {
		around(t, "a Seq", of(6, seq), seq >= 1 && seq <= most)
	}
}

func TestP18_1Keys(t *testing.T) {
	for _, s := range []string{"k", "\x00", "\xff", "ü", "界"} {
		for n := range 40 {
			key := strings.Repeat(s, n)[:n]
			d, o := of(6, 5), of(6, 5)
			d.Key, o.Other = key, key
			around(t, "a Key", d, n >= 1 && n <= 16)
			around(t, "an Other", o, n >= 1 && n <= 16)
			d.Other, o.Key = key+"x", key+"x"
			around(t, "a Key, and one more", d, n >= 1 && n <= 15)
			around(t, "an Other, and one more", o, n >= 1 && n <= 15)
			d.Other = key
			around(t, "a Key that is the Other", d, false)
		}
	}
	for _, n := range []int{256, 257, 1<<16 + 1, 1 << 20} {
		d, o := of(6, 5), of(6, 5)
		d.Key, o.Other = strings.Repeat("k", n), strings.Repeat("k", n)
		if Check(list(d)) != 21 || Check(list(o)) != 21 {
			t.Errorf("a key of %d bytes", n)
		}
	}
	for _, p := range [][2]string{{"a", "A"}, {"a", "a\x00"}, {"a", "a "}, {"\x00", "\x01"}, {"é", "e"}, {"abcdefghijklmnop", "abcdefghijklmnoq"}, {"abcdefghijklmnop", "bbcdefghijklmnop"}} {
		d := of(6, 5)
		d.Key, d.Other = p[0], p[1]
		around(t, "keys near each other", d, true)
		d.Key, d.Other = p[1], p[0]
		around(t, "keys near each other", d, true)
	}
}

func TestP18_1N(t *testing.T) {
	for _, n := range edges {
		d := of(6, 5)
		d.N = n
		around(t, "an N", d, n >= 1)
	}
}

// Each word of each side, with each fate: those that are right are written out.
func TestP18_1Fates(t *testing.T) {
	fates := map[[2]int][]int{
		{0, 0}: {0, 2}, {0, 1}: {0, 2}, {0, 2}: {2},
		{1, 0}: {0, 2}, {1, 1}: {1}, {1, 2}: {2},
		{2, 0}: {2}, {2, 1}: {2}, {2, 2}: {2},
	}
	numbers := []int{-1, 0, 1, 2, 3, low, -2, 4, 256, 257, 258, 1 << 32, 1<<32 + 1, most, top}
	right := 0
	for i, mine := range numbers {
		for j, theirs := range numbers {
			for k, fate := range numbers {
				d, is := put(6, 5, mine, theirs, fate), slices.Contains(fates[[2]int{mine, theirs}], fate)
				if is {
					right++
				}
				if max(i, j, k) < 5 {
					around(t, "a state", d, is)
				}
				if checks(t, list(of(1, 1), d)) != is {
					t.Errorf("a state: %s", line(d))
				}
				opens(t, nil, d)
			}
		}
	}
	if right != 12 {
		t.Errorf("%d states are right", right)
	}
}

func TestP18_1Twice(t *testing.T) {
	for i, s := range states {
		for _, o := range states {
			d, k := put(3, 7, s[0], s[1], s[2]), put(3, 7, o[0], o[1], o[2])
			k.Key, k.Other, k.N = "x", "y", i+1
			books(t, "two next to each other", list(d, k), false)
			books(t, "two apart", list(d, of(4, 7), k), false)
			books(t, "two at both ends", list(d, of(3, 6), of(2, 7), k), false)
			books(t, "two behind another one", list(of(7, 3), d, k), false)
			k.Seq = 8
			books(t, "one client, two Seqs", list(d, k), true)
			k.Client, k.Seq = 4, 7
			books(t, "one Seq, two clients", list(k, d), true)
			k.Client, k.Seq = 7, 3
			books(t, "numbers turned round", list(k, d), true)
		}
	}
	for at := range full() {
		for other := range at {
			l := full()
			l[at].Client, l[at].Seq = l[other].Client, l[other].Seq
			books(t, "two of four", l, false)
		}
	}
}

// Books have no order of their own but that in which they were opened.
func TestP18_1Whole(t *testing.T) {
	books(t, "nil", nil, true)
	books(t, "empty", list(), true)
	books(t, "zero", make([]api.Deal, 1), false)
	books(t, "zeros", make([]api.Deal, 4), false)
	for n := range 7 {
		var l, same []api.Deal
		for i := range n {
			l = append(l, of(8, 20-i))
			same = append(same, of(1, 1))
		}
		books(t, "a number of deals", l, n <= 4)
		books(t, "a number of deals, all of one", same, n <= 1)
	}
	for i := range 24 {
		l := full()
		l[0], l[i%4] = l[i%4], l[0]
		l[1], l[1+i/4%3] = l[1+i/4%3], l[1]
		l[2], l[2+i/12] = l[2+i/12], l[2]
		books(t, "in any order", l, true)
	}
	long := make([]api.Deal, 200000)
	for i := range long {
		long[i] = of(1+i%8, 1+i/8)
	}
	for _, l := range [][]api.Deal{long, make([]api.Deal, 200000)} {
		k, e := Open(l, of(1, 1))
		m, now, f := Say(l, 1, 1, true, true)
		g, given, h := Give(l, 1, 1)
		n, i := Forget(l, 1, 1)
		d, is := Find(l, 1, 1)
		if Check(l) != 21 || e != 21 || f != 21 || h != 21 || i != 21 || k != nil || m != nil || g != nil || n != nil || now || given || is || d != (api.Deal{}) {
			t.Errorf("a long list: errors %d, %d, %d, %d", e, f, h, i)
		}
	}
}

// Of what are no books all calls are ErrForm, whatever their arguments are.
func TestP18_1NoBooks(t *testing.T) {
	for _, l := range [][]api.Deal{{{}}, {of(1, 1), of(1, 1)}, append(full(), of(7, 7)), {put(1, 1, 1, 1, 0)}, {of(1, 1), of(9, 2)}} {
		for _, client := range edges {
			for _, seq := range edges {
				touches(t, l, client, seq)
			}
		}
	}
}

func TestP18_1Find(t *testing.T) {
	for _, l := range [][]api.Deal{nil, {}, full()[:1], full(), ordinary(), ordinary()[1:]} {
		for i, d := range l {
			if got, is := Find(l, d.Client, d.Seq); !is || got != l[i] {
				t.Errorf("Find(%s, %d, %d): %s, %v", text(l), d.Client, d.Seq, line(got), is)
			}
			for _, n := range edges {
				finds(t, l, d.Client, n)
				finds(t, l, n, d.Seq)
				finds(t, l, d.Client+n, d.Seq)
			}
		}
		for _, client := range edges {
			for _, seq := range edges {
				finds(t, l, client, seq)
			}
		}
	}
	// All that a deal has is told.
	d := api.Deal{Client: 8, Seq: most, Key: "\x00", Other: strings.Repeat("\xff", 16), N: top, Mine: 1, Theirs: 2, Fate: 2}
	if got, is := Find(list(of(8, 1), d), 8, most); !is || got != d {
		t.Errorf("%s, %v", line(got), is)
	}
	if got, is := Find(append(full(), d), 8, most); is || got != (api.Deal{}) {
		t.Errorf("of no books: %s, %v", line(got), is)
	}
}
