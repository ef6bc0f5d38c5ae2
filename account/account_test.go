package account

import (
	"fmt"
	"slices"
	"strings"
	"testing"

	"purse/api"
)

// room fails, if a may not fall and rise by just that.
func room(t testing.TB, a api.Account, fall, rise uint64) {
	t.Helper()
	if f, r := Room(a); f != fall || r != rise {
		t.Errorf("Room(%s): %d, %d; want %d, %d", text(a), f, r, fall, rise)
	}
	tells(t, a)
}

// made is what a call makes of a; the test ends, if it is refused.
func made(t testing.TB, a api.Account, w wish) api.Account {
	t.Helper()
	b, e := w.ask(a)
	if e != api.OK {
		t.Fatalf("%+v of %s: error %d", w, text(a), e)
	}
	return b
}

func TestExampleOfRights(t *testing.T) {
	a := of(0, 10, 4)
	room(t, a, 4, 6)
	makes(t, a, grant(1, 7, 3), of(0, 10, 4, api.Holder{Node: 1, Lease: 7, Up: 1, Down: 1}))
	a = made(t, a, grant(1, 7, 3))
	room(t, a, 3, 5)
	refuses(t, a, add(6), api.ErrBound)
	a = made(t, a, add(5))
	if text(a) != `"k" [0 10] 9 {1:7 +1 -1}` {
		t.Errorf("Add(5): %s", text(a))
	}
	refuses(t, a, report(1, 7, 12, -1), api.ErrFrozen)
	a = made(t, a, freeze(12))
	a = made(t, a, report(1, 7, 12, -1))
	if text(a) != `"k" [0 10] 8 round 12` {
		t.Errorf("Report: %s", text(a))
	}
	if v, is := Total(a); v != 8 || !is {
		t.Errorf("Total: %d, %v", v, is)
	}
	refuses(t, a, bounds(9, 20), api.ErrBound)
}

func TestExampleOfLocks(t *testing.T) {
	a := made(t, of(0, 10, 8), take(api.Lock{Client: 1, Seq: 1, Home: 1, N: -8}))
	if text(a) != `"k" [0 10] 8 lock 1/1/1/-8` {
		t.Errorf("Take: %s", text(a))
	}
	refuses(t, a, add(1), api.ErrFrozen)
	makes(t, a, free(true), of(0, 10, 0))
	makes(t, a, free(false), of(0, 10, 8))
}

// wishes is calls of each kind, with arguments that may be, and that may not.
func wishes() []wish {
	l := []wish{thaw(), free(true), free(false)}
	for _, n := range []int{low, -5, -1, 0, 1, 5, top} {
		l = append(l, add(n), freeze(n), bounds(n, 9), bounds(-9, n), take(lock(n)))
		l = append(l, take(api.Lock{Client: n, Seq: 1, Home: 1}), take(api.Lock{N: n}))
		for _, round := range []int{0, 7, 12} {
			l = append(l, report(1, 10, round, n), report(2, 20, round, n), report(2, 21, round, n), report(n, 10*n, round, n))
		}
		l = append(l, grant(1, 1, n), grant(n, 9, 3), grant(2, n, 3), grant(3, 3, 2))
	}
	return append(l, bounds(low, top), freeze(most), grant(5, most, 5))
}

// right fails, if a is not as right as is says; of what is not right all calls
// are ErrForm, whatever their arguments are, and those without an error tell
// nothing.
func right(t testing.TB, what string, a api.Account, is bool) {
	t.Helper()
	if e := Check(a); is && e != api.OK || !is && e != api.ErrForm {
		t.Errorf("%s: Check(%s): error %d", what, text(a), e)
	}
	tells(t, a)
	if is {
		for _, w := range wishes() {
			does(t, a, w)
		}
		return
	}
	if fall, rise := Room(a); fall != 0 || rise != 0 {
		t.Errorf("%s: Room(%s): %d, %d", what, text(a), fall, rise)
	}
	if v, is := Total(a); v != 0 || is {
		t.Errorf("%s: Total(%s): %d, %v", what, text(a), v, is)
	}
	for node := range 7 {
		if h, is := Find(a, node); is || h != (api.Holder{}) {
			t.Errorf("%s: Find(%s, %d): %v, %v", what, text(a), node, h, is)
		}
	}
	if Plain(a) {
		t.Errorf("%s: Plain(%s)", what, text(a))
	}
	for _, w := range wishes() {
		refuses(t, a, w, api.ErrForm)
	}
}

// keys are keys of bytes of many kinds, each of the length n.
func keys(n int) []string {
	var l []string
	for _, s := range []string{"k", "\x00", "\xff", "ü", "界", "a\x00", "\n"} {
		l = append(l, strings.Repeat(s, n)[:n])
	}
	return l
}

func TestP15_1Keys(t *testing.T) {
	for _, n := range []int{0, 1, 2, 15, 16, 17, 18, 32, 256, 257, 272, 65537} {
		is := n >= 1 && n <= 16
		for _, key := range keys(n) {
			for _, a := range []api.Account{of(0, 0, 0), of(0, 10, 4, lends(1, 1, 1)), frozen(of(-3, 9, 2), 7), locked(of(0, 10, 4), lock(6))} {
				a.Key = key
				right(t, fmt.Sprintf("a key of %d bytes", n), a, is)
			}
		}
	}
}

func TestP15_1New(t *testing.T) {
	for n := range 40 {
		for _, key := range keys(n) {
			a, e := New(key)
			if n >= 1 && n <= 16 {
				if e != api.OK || text(a) != fmt.Sprintf("%q [0 0] 0", key) || !Plain(a) || Check(a) != api.OK {
					t.Errorf("New(%q): %s, error %d", key, text(a), e)
				}
				room(t, a, 0, 0)
			} else if e != api.ErrArg || text(a) != text(api.Account{}) || a.Holders != nil {
				t.Errorf("New(%q): %s, error %d", key, text(a), e)
			}
		}
	}
	if _, e := New(strings.Repeat("k", 1<<20)); e != api.ErrArg {
		t.Errorf("New of a very long key: error %d", e)
	}
}

func TestP15_1Base(t *testing.T) {
	rows := []struct {
		lo, hi, base int
		is           bool
	}{
		{0, 10, 0, true}, {0, 10, 10, true}, {0, 10, 5, true}, {0, 10, -1, false}, {0, 10, 11, false},
		{0, 0, 0, true}, {0, 0, 1, false}, {0, 0, -1, false}, {7, 7, 7, true}, {7, 7, 0, false},
		{-5, -3, -4, true}, {-5, -3, -6, false}, {-5, -3, -2, false}, {-5, -3, 0, false},
		{10, 0, 5, false}, {1, 0, 0, false}, {1, 0, 1, false}, {top, low, 0, false}, {top, low, low, false}, {top, low, top, false},
		{low, top, 0, true}, {low, top, low, true}, {low, top, top, true},
		{low, low, low, true}, {low, low, top, false}, {low, low, low + 1, false},
		{top, top, top, true}, {top, top, low, false}, {top, top, top - 1, false},
		{low + 1, top - 1, low, false}, {low + 1, top - 1, top, false}, {low + 1, top - 1, low + 1, true}, {low + 1, top - 1, top - 1, true},
	}
	for _, r := range rows {
		right(t, "a Base", of(r.lo, r.hi, r.base), r.is)
		right(t, "a Base, with a holder", of(r.lo, r.hi, r.base, lends(2, 0, 0)), r.is)
		right(t, "a Base, frozen", frozen(of(r.lo, r.hi, r.base), 7), r.is)
		right(t, "a Base, locked", locked(of(r.lo, r.hi, r.base), lock(0)), r.is)
	}
}

func TestP15_1Nodes(t *testing.T) {
	nodes := []int{low, -5, -1, 0, 1, 2, 3, 4, 5, 6, 7, 256 + 1, 1<<32 + 1, top}
	for _, first := range nodes {
		may := first >= 1 && first <= 5
		right(t, "a node", of(0, 90, 40, lends(first, 1, 2)), may)
		for _, second := range nodes {
			is := may && first < second && second <= 5
			right(t, "two nodes", of(0, 90, 40, lends(first, 1, 2), lends(second, 2, 1)), is)
			right(t, "two nodes that lie ahead of a third", of(0, 90, 40, lends(first, 1, 2), lends(second, 2, 1), lends(4, 0, 0)), is && second < 4)
			right(t, "two nodes that lie behind a third", of(0, 90, 40, lends(2, 0, 0), lends(first, 1, 2), lends(second, 2, 1)), is && first > 2)
		}
	}
}

// somebody is holders for each set of the nodes 1 to 5.
func somebody() [][]api.Holder {
	var all [][]api.Holder
	for set := range 1 << 5 {
		var l []api.Holder
		for node := 1; node <= 5; node++ {
			if set>>(node-1)&1 == 1 {
				l = append(l, lends(node, node, 6-node))
			}
		}
		all = append(all, l)
	}
	return all
}

func TestP15_1Holders(t *testing.T) {
	right(t, "empty", of(0, 9, 4, []api.Holder{}...), true)
	for _, l := range somebody() {
		right(t, "a set of nodes", of(-90, 90, 40, l...), true)
		for at := range l {
			right(t, "one of them twice", of(-90, 90, 40, slices.Insert(slices.Clone(l), at, l[at])...), false)
			for other := range at {
				k := slices.Clone(l)
				k[at], k[other] = k[other], k[at]
				right(t, "two of them in each other's place", of(-90, 90, 40, k...), false)
			}
		}
	}
	right(t, "one more than may be", of(-90, 90, 40, append(slices.Clone(somebody()[31]), lends(6, 0, 0))...), false)
	right(t, "a zero holder", of(-90, 90, 40, api.Holder{}), false)
	if e := Check(of(0, 9, 4, make([]api.Holder, 100000)...)); e != api.ErrForm {
		t.Errorf("many zero holders: error %d", e)
	}
}

func TestP15_1Leases(t *testing.T) {
	for _, lease := range edges {
		l := []api.Holder{lends(2, 1, 1), lends(3, 0, 0), lends(4, 1, 0)}
		for at := range l {
			k := slices.Clone(l)
			k[at].Lease = lease
			right(t, "a lease", of(0, 9, 4, k...), lease >= 1)
		}
		right(t, "the lease of one", of(0, 9, 4, api.Holder{Node: 1, Lease: lease}), lease >= 1)
		right(t, "the lease of all", of(0, 9, 4, api.Holder{Node: 1, Lease: lease}, api.Holder{Node: 5, Lease: lease}), lease >= 1)
	}
}

func TestP15_1Parts(t *testing.T) {
	rows := []struct {
		lo, hi, base int
		parts        [][2]int // Up, Down
		is           bool
	}{
		{0, 10, 4, [][2]int{{0, 0}}, true},
		{0, 10, 4, [][2]int{{6, 4}}, true},
		{0, 10, 4, [][2]int{{7, 0}}, false},
		{0, 10, 4, [][2]int{{0, 5}}, false},
		{0, 10, 4, [][2]int{{-1, 0}}, false},
		{0, 10, 4, [][2]int{{0, -1}}, false},
		{0, 10, 4, [][2]int{{low, 0}}, false},
		{0, 10, 4, [][2]int{{0, low}}, false},
		{0, 10, 4, [][2]int{{7, 0}, {-1, 0}}, false},
		{0, 10, 4, [][2]int{{0, 5}, {0, -1}}, false},
		{0, 10, 4, [][2]int{{2, 1}, {3, 1}, {1, 2}}, true},
		{0, 10, 4, [][2]int{{2, 1}, {3, 1}, {2, 2}}, false},
		{0, 10, 4, [][2]int{{2, 1}, {3, 2}, {1, 2}}, false},
		{0, 10, 4, [][2]int{{1, 0}, {1, 1}, {2, 1}, {1, 1}, {1, 1}}, true},
		{0, 10, 4, [][2]int{{1, 0}, {1, 1}, {2, 1}, {1, 1}, {2, 1}}, false},
		{0, 10, 4, [][2]int{{1, 1}, {1, 1}, {2, 1}, {1, 1}, {1, 1}}, false},
		{-10, -4, -10, [][2]int{{6, 0}}, true},
		{-10, -4, -10, [][2]int{{6, 1}}, false},
		{-10, -4, -10, [][2]int{{7, 0}}, false},
		{-10, -4, -4, [][2]int{{0, 6}}, true},
		{-10, -4, -4, [][2]int{{0, 7}}, false},
		{5, 5, 5, [][2]int{{0, 0}, {0, 0}, {0, 0}}, true},
		{5, 5, 5, [][2]int{{0, 0}, {1, 0}, {0, 0}}, false},
		{5, 5, 5, [][2]int{{0, 0}, {0, 1}, {0, 0}}, false},
		// Sums that no int has, and sums that come to the ints again if they wrap.
		{0, top, 0, [][2]int{{top, 0}}, true},
		{0, top, 1, [][2]int{{top, 0}}, false},
		{0, top, 0, [][2]int{{top, 0}, {1, 0}}, false},
		{0, top, 0, [][2]int{{top, 0}, {top, 0}, {2, 0}}, false},
		{0, top, 0, [][2]int{{most, 0}, {most, 0}, {most, 0}, {most, 0}}, false},
		{0, top, 5, [][2]int{{most, 0}, {most, 0}, {most, 0}, {most, 0}}, false},
		{low, 0, 0, [][2]int{{0, top}}, true},
		{low, 0, 0, [][2]int{{0, top}, {0, 1}}, true},
		{low, 0, 0, [][2]int{{0, top}, {0, 2}}, false},
		{low, 0, -1, [][2]int{{0, top}, {0, 1}}, false},
		{low, 0, -2, [][2]int{{0, top}}, false},
		{low, 0, 0, [][2]int{{0, top}, {0, top}, {0, 2}}, false},
		{low, 0, 0, [][2]int{{0, most}, {0, most}, {0, most}, {0, most}}, false},
		{low, top, low, [][2]int{{top, 0}, {top, 0}, {1, 0}}, true},
		{low, top, low, [][2]int{{top, 0}, {top, 0}, {2, 0}}, false},
		{low, top, low, [][2]int{{top, 0}, {top, 0}, {top, 0}}, false},
		{low, top, low, [][2]int{{top, 0}, {top, 0}, {top, 0}, {top, 0}, {top, 0}}, false},
		{low, top, low, [][2]int{{most, 0}, {most, 0}, {most, 0}, {most - 1, 0}}, true},
		{low, top, low, [][2]int{{most, 0}, {most, 0}, {most, 0}, {most, 0}}, false},
		{low, top, top, [][2]int{{0, top}, {0, top}, {0, 1}}, true},
		{low, top, top, [][2]int{{0, top}, {0, top}, {0, 2}}, false},
		{low, top, top, [][2]int{{0, top}, {0, top}, {0, top}, {0, top}, {0, top}}, false},
		{low, top, 0, [][2]int{{top, top}}, true},
		{low, top, 0, [][2]int{{top, top}, {0, 1}}, true},
		{low, top, 0, [][2]int{{top, top}, {1, 0}}, false},
		{low, top, -1, [][2]int{{top, top}, {1, 0}}, true},
		{low, top, -1, [][2]int{{top, top}, {1, 1}}, false},
	}
	for _, r := range rows {
		a := of(r.lo, r.hi, r.base)
		for i, p := range r.parts {
			a.Holders = append(a.Holders, lends(i+1, p[0], p[1]))
		}
		right(t, "parts", a, r.is)
		right(t, "parts, frozen", frozen(a, most), r.is)
	}
}

func TestP15_1Rounds(t *testing.T) {
	for _, round := range edges {
		right(t, "a round", frozen(of(0, 9, 4), round), round >= 0)
		right(t, "a round, with holders", frozen(of(0, 9, 4, lends(1, 1, 1), lends(2, 3, 3)), round), round >= 0)
		right(t, "a round, locked", frozen(locked(of(0, 9, 4), lock(5)), round), round >= 0)
	}
}

func TestP15_1Locks(t *testing.T) {
	for _, n := range append([]int{5, 6, 7, 8, 9, 256 + 1, 1<<32 + 1}, edges...) {
		right(t, "a Client", locked(of(0, 9, 4), api.Lock{Client: n, Seq: 4, Home: 5, N: 5}), n >= 1)
		right(t, "a Seq", locked(of(0, 9, 4), api.Lock{Client: 3, Seq: n, Home: 5, N: 5}), n >= 1)
		right(t, "a Home", locked(of(0, 9, 4), api.Lock{Client: 3, Seq: 4, Home: n, N: 5}), n >= 1 && n <= 7)
		right(t, "an N", locked(of(0, 9, 4), lock(n)), n >= -4 && n <= 5)
		// No Client, but another part.
		right(t, "a Seq of nobody", locked(of(0, 9, 4), api.Lock{Seq: n}), n == 0)
		right(t, "a Home of nobody", locked(of(0, 9, 4), api.Lock{Home: n}), n == 0)
		right(t, "an N of nobody", locked(of(0, 9, 4), api.Lock{N: n}), n == 0)
		right(t, "all of nobody", locked(of(0, 9, 4), api.Lock{Seq: 4, Home: 5, N: n}), false)
		right(t, "a Seq of nobody, with a holder", locked(of(0, 9, 4, lends(1, 1, 1)), api.Lock{Seq: n}), n == 0)
	}
	for _, l := range somebody()[1:] {
		right(t, "a lock beside holders", locked(of(-90, 90, 40, l...), lock(0)), false)
		right(t, "a lock beside holders, frozen", frozen(locked(of(-90, 90, 40, l...), lock(1)), 9), false)
	}
	right(t, "a lock beside a holder of nothing", locked(of(0, 9, 4, lends(1, 0, 0)), lock(1)), false)
	right(t, "a lock beside an empty list", locked(of(0, 9, 4, []api.Holder{}...), lock(1)), true)
}

func TestP15_1LocksOfWhat(t *testing.T) {
	rows := []struct {
		lo, hi, base, n int
		is              bool
	}{
		{0, 10, 4, 6, true}, {0, 10, 4, 7, false}, {0, 10, 4, -4, true}, {0, 10, 4, -5, false}, {0, 10, 4, 0, true},
		{-9, -3, -5, 2, true}, {-9, -3, -5, 3, false}, {-9, -3, -5, -4, true}, {-9, -3, -5, -5, false},
		{0, 0, 0, 0, true}, {0, 0, 0, 1, false}, {0, 0, 0, -1, false},
		{low, top, 0, top, true}, {low, top, 0, low, true}, {low, top, 1, top, false}, {low, top, -1, low, false},
		{low, top, -1, top, true}, {low, top, low, top, true}, {low, top, top, low, true}, {low, top, low, -1, false}, {low, top, low, low, false},
		{low, top, top, 1, false}, {low, top, top, top, false}, {0, top, top, low + 1, true}, {0, top, top, low, false},
		{low, -1, low, top, true}, {low, -2, low, top, false},
	}
	for _, r := range rows {
		right(t, "a lock", locked(of(r.lo, r.hi, r.base), lock(r.n)), r.is)
		right(t, "a lock, frozen", frozen(locked(of(r.lo, r.hi, r.base), lock(r.n)), 3), r.is)
	}
}
