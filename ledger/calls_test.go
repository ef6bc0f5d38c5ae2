package ledger

import (
	"fmt"
	"slices"
	"strings"
	"testing"

	"purse/api"
)

// A row is one ledger, one account and one node, and what is wanted of them.
type row struct {
	l     []api.Right
	group int
	a     api.Account
	node  int
	n     int
	e     api.Errno
	net   int
}

// spending fails, if a row's Spend is not of that error, or not by that Net.
func spending(t *testing.T, rows []row) {
	t.Helper()
	for _, r := range rows {
		var want api.Right
		if h, is := plainHolder(r.a, r.node); is && r.e == api.OK {
			want = spent(r.group, r.a.Key, h.Lease, r.net)
		}
		if got, e := Spend(r.l, r.group, r.a, r.node, r.n); e != r.e || got != want {
			t.Errorf("Spend(%s, %d, %s, %d, %d): %+v, error %d; want %+v, error %d", text(r.l), r.group, show(r.a), r.node, r.n, got, e, want, r.e)
		}
		spends(t, r.l, r.group, r.a, r.node, r.n)
	}
}

// put is the ledger in which of the account k of group 2 so much is spent, by the
// lease of node 1.
func put(net int) []api.Right { return list(spent(2, "k", 10, net)) }

func TestP16_2Spend(t *testing.T) {
	a := ordinary()
	spending(t, []row{
		{nil, 2, a, 1, 1, api.OK, 1}, {nil, 2, a, 1, 2, api.OK, 2}, {nil, 2, a, 1, 3, api.ErrBound, 0},
		{nil, 2, a, 1, -1, api.OK, -1}, {nil, 2, a, 1, -2, api.ErrBound, 0}, {nil, 2, a, 1, 0, api.ErrArg, 0},
		{nil, 2, a, 1, top, api.ErrBound, 0}, {nil, 2, a, 1, low, api.ErrBound, 0}, {nil, 2, a, 1, low + 1, api.ErrBound, 0},
		{list(), 2, a, 4, 1, api.OK, 1}, {list(), 2, a, 4, -2, api.OK, -2}, {list(), 2, a, 4, 2, api.ErrBound, 0}, {list(), 2, a, 4, -3, api.ErrBound, 0},
		{nil, 2, a, 3, 1, api.ErrBound, 0}, {nil, 2, a, 3, -1, api.ErrBound, 0}, {nil, 2, a, 3, 0, api.ErrArg, 0},
		{put(1), 2, a, 1, 1, api.OK, 2}, {put(1), 2, a, 1, 2, api.ErrBound, 0}, {put(1), 2, a, 1, -1, api.OK, 0}, {put(1), 2, a, 1, -2, api.OK, -1}, {put(1), 2, a, 1, -3, api.ErrBound, 0},
		{put(2), 2, a, 1, 1, api.ErrBound, 0}, {put(2), 2, a, 1, -3, api.OK, -1}, {put(2), 2, a, 1, -4, api.ErrBound, 0}, {put(2), 2, a, 1, 0, api.ErrArg, 0},
		{put(-1), 2, a, 1, -1, api.ErrBound, 0}, {put(-1), 2, a, 1, 3, api.OK, 2}, {put(-1), 2, a, 1, 4, api.ErrBound, 0},
		{put(0), 2, a, 1, 2, api.OK, 2}, {put(0), 2, a, 1, -1, api.OK, -1},
	})
}

// What was spent ahead of it may be above Up, or below 0 less Down: what both are
// together counts.
func TestP16_2SpentTooMuchAhead(t *testing.T) {
	a := ordinary()
	spending(t, []row{
		{put(3), 2, a, 1, 1, api.ErrBound, 0}, {put(3), 2, a, 1, -1, api.OK, 2}, {put(3), 2, a, 1, -4, api.OK, -1}, {put(3), 2, a, 1, -5, api.ErrBound, 0},
		{put(100), 2, a, 1, -97, api.ErrBound, 0}, {put(100), 2, a, 1, -98, api.OK, 2}, {put(100), 2, a, 1, -101, api.OK, -1}, {put(100), 2, a, 1, -102, api.ErrBound, 0}, {put(100), 2, a, 1, -1, api.ErrBound, 0},
		{put(-2), 2, a, 1, -1, api.ErrBound, 0}, {put(-2), 2, a, 1, 1, api.OK, -1}, {put(-2), 2, a, 1, 4, api.OK, 2}, {put(-2), 2, a, 1, 5, api.ErrBound, 0},
		{put(-100), 2, a, 1, 98, api.ErrBound, 0}, {put(-100), 2, a, 1, 99, api.OK, -1}, {put(-100), 2, a, 1, 102, api.OK, 2}, {put(-100), 2, a, 1, 103, api.ErrBound, 0},
		{put(3), 2, a, 1, 0, api.ErrArg, 0}, {put(top), 2, a, 1, 0, api.ErrArg, 0}, {put(low), 2, a, 1, 0, api.ErrArg, 0},
		{put(top), 2, a, 1, -top, api.OK, 0}, {put(top), 2, a, 1, low, api.OK, -1}, {put(top), 2, a, 1, -top + 2, api.OK, 2}, {put(top), 2, a, 1, -top + 3, api.ErrBound, 0},
		{put(low), 2, a, 1, top, api.OK, -1}, {put(low + 1), 2, a, 1, top, api.OK, 0}, {put(low + 3), 2, a, 1, top, api.OK, 2}, {put(low + 4), 2, a, 1, top, api.ErrBound, 0},
	})
}

// What was spent and n together is no int; it would be within what is lent, if it
// wrapped.
func TestP16_2SumsThatNoIntHas(t *testing.T) {
	whole := of(low, top, 0, lends(1, top, top))
	spending(t, []row{
		{put(top), 2, whole, 1, 1, api.ErrBound, 0}, {put(top), 2, whole, 1, 2, api.ErrBound, 0}, {put(top), 2, whole, 1, top, api.ErrBound, 0}, {put(1), 2, whole, 1, top, api.ErrBound, 0}, {put(most), 2, whole, 1, most, api.ErrBound, 0},
		{put(-top), 2, whole, 1, -2, api.ErrBound, 0}, {put(-top), 2, whole, 1, low, api.ErrBound, 0}, {put(low), 2, whole, 1, low, api.ErrBound, 0}, {put(low), 2, whole, 1, -1, api.ErrBound, 0}, {put(-1), 2, whole, 1, low, api.ErrBound, 0},
		{put(-top), 2, whole, 1, -1, api.ErrBound, 0}, {put(0), 2, whole, 1, low, api.ErrBound, 0}, {put(-most), 2, whole, 1, -most, api.ErrBound, 0},
		{put(0), 2, whole, 1, top, api.OK, top}, {put(-1), 2, whole, 1, top, api.OK, top - 1}, {put(1), 2, whole, 1, low, api.OK, -top}, {put(0), 2, whole, 1, -top, api.OK, -top},
		{put(top), 2, whole, 1, -1, api.OK, top - 1}, {put(top), 2, whole, 1, low, api.OK, -1}, {put(low), 2, whole, 1, top, api.OK, -1}, {put(low), 2, whole, 1, 1, api.OK, -top},
		{put(most), 2, whole, 1, most - 1, api.OK, top}, {put(-most), 2, whole, 1, -most + 1, api.OK, -top},
		{put(top), 2, ordinary(), 1, top, api.ErrBound, 0}, {put(top), 2, ordinary(), 1, 2, api.ErrBound, 0}, {put(low), 2, ordinary(), 1, low, api.ErrBound, 0}, {put(low), 2, ordinary(), 1, -1, api.ErrBound, 0},
	})
	for _, now := range edges {
		for _, n := range edges {
			for _, up := range []int{0, 1, 2, top - 1, top} {
				for _, down := range []int{0, 1, 2, top - 1, top} {
					all(t, put(now), 2, of(low, top, 0, lends(1, up, down)), 1, n)
				}
			}
		}
	}
}

func TestP16_2OfWhichRight(t *testing.T) {
	a := ordinary()
	one := func(r api.Right) []api.Right { return list(r) }
	spending(t, []row{
		{one(spent(2, "k", 9, 2)), 2, a, 1, 2, api.OK, 2}, {one(spent(2, "k", 11, -1)), 2, a, 1, -1, api.OK, -1}, {one(spent(2, "k", 40, 1)), 2, a, 1, 2, api.OK, 2},
		{one(spent(2, "k", 40, 1)), 2, a, 4, 1, api.ErrBound, 0}, {one(spent(2, "k", 10, 1)), 2, a, 4, 1, api.OK, 1},
		{one(spent(1, "k", 10, 2)), 2, a, 1, 2, api.OK, 2}, {one(spent(3, "k", 10, 2)), 2, a, 1, 2, api.OK, 2}, {one(spent(2, "k", 10, 2)), 3, a, 1, 2, api.OK, 2},
		{one(spent(2, "j", 10, 2)), 2, a, 1, 2, api.OK, 2}, {one(spent(2, "l", 10, 2)), 2, a, 1, 2, api.OK, 2}, {one(spent(2, "k\x00", 10, 2)), 2, a, 1, 2, api.OK, 2},
		{list(spent(2, "j", 10, -1), spent(2, "k", 10, 2), spent(2, "l", 10, -1)), 2, a, 1, 1, api.ErrBound, 0},
		{list(spent(1, "k", 10, -1), spent(2, "k", 10, 2), spent(3, "k", 10, -1)), 2, a, 1, -3, api.OK, -1},
		{put(2), 2, named(a, "j"), 1, 2, api.OK, 2},
		{put(2), 2, named(a, strings.Repeat("k", 16)), 1, 2, api.OK, 2},
	})
}

func TestP16_2Groups(t *testing.T) {
	for _, group := range groups {
		e, net := api.OK, 1
		if group < 1 || group > 7 {
			e, net = api.ErrArg, 0
		}
		spending(t, []row{{nil, group, ordinary(), 1, 1, e, net}, {put(0), group, ordinary(), 1, 1, e, net}, {put(0), group, ordinary(), 1, 0, api.ErrArg, 0}})
	}
}

func TestP16_2Nodes(t *testing.T) {
	for _, node := range []int{low, -1, 0, 2, 5, 6, 256 + 1, 1<<32 + 1, top} {
		spending(t, []row{
			{nil, 2, ordinary(), node, 1, api.ErrHolder, 0}, {nil, 2, of(0, 10, 4), node, 1, api.ErrHolder, 0}, {put(0), 2, locked(of(0, 10, 4)), node, 1, api.ErrHolder, 0},
			{put(0), 2, ordinary(), node, top, api.ErrHolder, 0}, {put(0), 2, frozen(ordinary(), 7), node, 1, api.ErrHolder, 0}, {put(0), 2, ordinary(), node, 0, api.ErrArg, 0},
		})
	}
	full := of(-90, 90, 40, lends(1, 1, 1), lends(2, 2, 2), lends(3, 3, 3), lends(4, 4, 4), lends(5, 5, 5))
	for node := 1; node <= 5; node++ {
		spending(t, []row{{nil, 2, full, node, node, api.OK, node}, {nil, 2, full, node, -node, api.OK, -node}, {nil, 2, full, node, node + 1, api.ErrBound, 0}, {nil, 2, full, node, -node - 1, api.ErrBound, 0}})
	}
	spending(t, []row{{nil, 2, locked(of(0, 10, 4)), 1, 1, api.ErrHolder, 0}, {nil, 2, frozen(locked(of(0, 10, 4)), 7), 1, 1, api.ErrHolder, 0}, {nil, 2, frozen(of(0, 10, 4), 7), 1, 1, api.ErrHolder, 0}})
}

func TestP16_2Frozen(t *testing.T) {
	for _, round := range []int{1, 2, 10, most, most + 1, top} {
		a := frozen(ordinary(), round)
		spending(t, []row{
			{nil, 2, a, 1, 1, api.ErrFrozen, 0}, {nil, 2, a, 1, -1, api.ErrFrozen, 0}, {put(1), 2, a, 1, 1, api.ErrFrozen, 0}, {put(9), 2, a, 1, 1, api.ErrFrozen, 0},
			{nil, 2, a, 1, 3, api.ErrFrozen, 0}, {nil, 2, a, 1, top, api.ErrFrozen, 0}, {nil, 2, a, 1, low, api.ErrFrozen, 0}, {nil, 2, a, 1, 0, api.ErrArg, 0}, {nil, 0, a, 1, 1, api.ErrArg, 0},
		})
	}
}

func TestP16_2Wrong(t *testing.T) {
	for _, a := range wrongs() {
		for _, n := range []int{0, 1, -1, top, low} {
			for _, group := range []int{0, 2, 8} {
				spending(t, []row{{nil, group, a, 1, n, api.ErrForm, 0}, {put(1), group, a, 1, n, api.ErrForm, 0}, {put(1), group, a, 2, n, api.ErrForm, 0}})
			}
		}
	}
}

// Whichever of the reasons for a refusal hold: the first one of the chapter's is
// told.
func TestOrderOfErrors(t *testing.T) {
	for set := range 1 << 7 {
		is := func(i int) bool { return set>>i&1 == 1 }
		l, a, group, node, n := put(3), of(0, 10, 4, lends(1, 2, 1)), 2, 1, -1
		if is(0) {
			l = append(l, api.Right{})
		}
		if is(1) {
			a.Base = 11
		}
		if is(2) {
			group = 8
		}
		if is(3) {
			n = 0
		}
		if is(4) {
			node = 2
		}
		if is(5) {
			a.Round = 7
		}
		if is(6) {
			l[0].Net = -1
		} else {
			l[0].Net = 1
		}
		first := func(l ...api.Errno) api.Errno {
			for i, e := range l {
				if is(i) && e != api.OK {
					return e
				}
			}
			return api.OK
		}
		want := first(api.ErrForm, api.ErrForm, api.ErrArg, api.ErrArg, api.ErrHolder, api.ErrFrozen, api.ErrBound)
		if e := spends(t, l, group, a, node, n); e != want {
			t.Errorf("Spend, reasons %07b: error %d; want %d", set, e, want)
		}
		if is(6) {
			l[0].Net = -2
		}
		want = first(api.ErrForm, api.ErrForm, api.ErrArg, api.OK, api.ErrHolder, api.ErrFrozen, api.ErrBound)
		if e := brackets(t, l, group, a, node); e != want {
			t.Errorf("Bracket, reasons %07b: error %d; want %d", set, e, want)
		}
		if got := reports(t, l, group, a, node); got != (!is(0) && !is(1) && !is(2) && !is(4) && is(5)) {
			t.Errorf("Report, reasons %07b: %v", set, got)
		}
		if _, e := trims(t, l, group, []api.Account{of(0, 9, 9), a}, node); e != first(api.ErrForm, api.ErrForm) {
			t.Errorf("Trim, reasons %07b: error %d", set, e)
		}
	}
}

func TestP16_3Bracket(t *testing.T) {
	a, whole := ordinary(), of(low, top, 0, lends(1, top, top))
	rows := []struct {
		l        []api.Right
		group    int
		a        api.Account
		node     int
		from, to int
		e        api.Errno
	}{
		{nil, 2, a, 1, 1, 8, 0}, {put(1), 2, a, 1, 2, 9, 0}, {put(2), 2, a, 1, 3, 10, 0}, {put(-1), 2, a, 1, 0, 7, 0}, {put(0), 2, a, 1, 1, 8, 0},
		{put(3), 2, a, 1, 0, 0, api.ErrBound}, {put(-2), 2, a, 1, 0, 0, api.ErrBound}, {put(top), 2, a, 1, 0, 0, api.ErrBound}, {put(low), 2, a, 1, 0, 0, api.ErrBound},
		{nil, 2, a, 3, 0, 10, 0}, {nil, 2, a, 4, 2, 9, 0}, {list(spent(2, "k", 40, -2)), 2, a, 4, 0, 7, 0}, {list(spent(2, "k", 40, 1)), 2, a, 4, 3, 10, 0},
		{list(spent(2, "k", 30, 1)), 2, a, 3, 0, 0, api.ErrBound}, {list(spent(2, "k", 30, -1)), 2, a, 3, 0, 0, api.ErrBound}, {list(spent(2, "k", 30, 0)), 2, a, 3, 0, 10, 0},
		// What was spent of another lease, group or key is not of this one.
		{list(spent(2, "k", 11, 9)), 2, a, 1, 1, 8, 0}, {list(spent(1, "k", 10, 9)), 2, a, 1, 1, 8, 0}, {list(spent(3, "k", 10, 9)), 2, a, 1, 1, 8, 0}, {list(spent(2, "j", 10, 9)), 2, a, 1, 1, 8, 0},
		{put(9), 2, a, 4, 2, 9, 0}, {put(9), 1, a, 1, 1, 8, 0}, {put(2), 2, named(a, "j"), 1, 1, 8, 0},
		// Bounds that lie elsewhere, and a Base that plays no part.
		{nil, 2, of(-20, -10, -15, lends(1, 5, 3)), 1, -17, -15, 0}, {put(-3), 2, of(-20, -10, -15, lends(1, 5, 3)), 1, -20, -18, 0}, {put(5), 2, of(-20, -10, -15, lends(1, 5, 3)), 1, -12, -10, 0},
		{nil, 2, of(-20, -10, -17, lends(1, 5, 3)), 1, -17, -15, 0}, {nil, 2, of(5, 5, 5, lends(1, 0, 0)), 1, 5, 5, 0}, {nil, 2, of(0, 10, 4, lends(1, 6, 4)), 1, 4, 4, 0},
		{nil, 2, of(0, 10, 4, lends(1, 1, 1), lends(5, 5, 3)), 1, 1, 9, 0}, {nil, 2, of(0, 10, 4, lends(1, 1, 1), lends(5, 5, 3)), 5, 3, 5, 0},
		// The ends of the ints.
		{nil, 2, whole, 1, -1, 0, 0}, {put(top), 2, whole, 1, top - 1, top, 0}, {put(-top), 2, whole, 1, low, low + 1, 0}, {put(low), 2, whole, 1, 0, 0, api.ErrBound}, {put(1), 2, whole, 1, 0, 1, 0},
		{nil, 2, of(low, top, low, lends(1, top, 0)), 1, low, 0, 0}, {put(top), 2, of(low, top, low, lends(1, top, 0)), 1, -1, top, 0}, {put(-1), 2, of(low, top, low, lends(1, top, 0)), 1, 0, 0, api.ErrBound},
		{nil, 2, of(low, top, top, lends(1, 0, top)), 1, -1, top, 0}, {put(-top), 2, of(low, top, top, lends(1, 0, top)), 1, low, 0, 0}, {put(1), 2, of(low, top, top, lends(1, 0, top)), 1, 0, 0, api.ErrBound},
		{nil, 2, of(low, top, 3, lends(1, 0, 0)), 1, low, top, 0}, {nil, 2, of(top, top, top, lends(1, 0, 0)), 1, top, top, 0}, {nil, 2, of(low, low, low, lends(1, 0, 0)), 1, low, low, 0},
		{nil, 2, of(low, low+5, low+2, lends(1, 3, 2)), 1, low + 2, low + 2, 0}, {put(3), 2, of(low, low+5, low+2, lends(1, 3, 2)), 1, low + 5, low + 5, 0}, {put(-2), 2, of(low, low+5, low+2, lends(1, 3, 2)), 1, low, low, 0},
		{put(3), 2, of(top-5, top, top-3, lends(1, 3, 2)), 1, top, top, 0}, {put(-2), 2, of(top-5, top, top-3, lends(1, 3, 2)), 1, top - 5, top - 5, 0},
		// Refusals.
		{nil, 2, a, 2, 0, 0, api.ErrHolder}, {nil, 2, a, 0, 0, 0, api.ErrHolder}, {nil, 2, of(0, 10, 4), 1, 0, 0, api.ErrHolder}, {nil, 2, locked(of(0, 10, 4)), 1, 0, 0, api.ErrHolder},
		{nil, 2, frozen(a, 1), 1, 0, 0, api.ErrFrozen}, {put(9), 2, frozen(a, top), 1, 0, 0, api.ErrFrozen}, {nil, 2, frozen(a, 1), 2, 0, 0, api.ErrHolder}, {nil, 2, frozen(locked(of(0, 10, 4)), 1), 1, 0, 0, api.ErrHolder},
	}
	for _, r := range rows {
		if from, to, e := Bracket(r.l, r.group, r.a, r.node); from != r.from || to != r.to || e != r.e {
			t.Errorf("Bracket(%s, %d, %s, %d): %d, %d, error %d; want %d, %d, error %d", text(r.l), r.group, show(r.a), r.node, from, to, e, r.from, r.to, r.e)
		}
		brackets(t, r.l, r.group, r.a, r.node)
	}
}

func TestP16_3Arguments(t *testing.T) {
	for _, group := range groups {
		e := api.OK
		if group < 1 || group > 7 {
			e = api.ErrArg
		}
		for _, l := range [][]api.Right{nil, put(9), list(spent(1, "k", 10, 1), spent(7, "k", 10, 2))} {
			got := brackets(t, l, group, ordinary(), 1)
			if got != e && (group != 2 || got != api.ErrBound) {
				t.Errorf("Bracket of group %d: error %d", group, got)
			}
			brackets(t, l, group, frozen(ordinary(), 7), 1)
			brackets(t, l, group, ordinary(), 2)
		}
	}
	for _, node := range []int{low, -1, 0, 2, 5, 6, 256 + 1, 1<<32 + 1, top} {
		if e := brackets(t, put(0), 2, ordinary(), node); e != api.ErrHolder {
			t.Errorf("Bracket of node %d: error %d", node, e)
		}
	}
	for _, a := range wrongs() {
		for _, group := range []int{0, 2, 8} {
			for _, node := range []int{0, 1, 2} {
				if e := brackets(t, put(0), group, a, node); e != api.ErrForm {
					t.Errorf("Bracket of %s: error %d", show(a), e)
				}
			}
		}
	}
}

// Whatever is lent of how many ints, and spent of that: no sum wraps.
func TestP16_3EachOfEdges(t *testing.T) {
	for _, lo := range edges {
		for _, hi := range edges {
			for _, base := range edges {
				a := of(lo, hi, base)
				if !plainRight(a) {
					continue
				}
				up, down := less(hi, base), less(base, lo)
				if !up.IsInt64() || !down.IsInt64() {
					continue
				}
				for _, part := range []int{1, 2, 3} {
					u, d := int(up.Int64())/part, int(down.Int64())/part
					a.Holders = []api.Holder{lends(1, u, d)}
					for _, net := range []int{-d - 1, -d, -d + 1, -1, 0, 1, u - 1, u} {
						brackets(t, put(net), 2, a, 1)
						spends(t, put(net), 2, a, 1, u)
						spends(t, put(net), 2, a, 1, -d)
					}
				}
			}
		}
	}
}

func TestP16_4Report(t *testing.T) {
	a := frozen(ordinary(), 12)
	rows := []struct {
		l     []api.Right
		group int
		a     api.Account
		node  int
		want  api.Command
		is    bool
	}{
		{nil, 2, a, 1, api.Command{Kind: api.CmdReport, Node: 1, Key: "k", Lease: 10, Round: 12}, true},
		{put(2), 2, a, 1, api.Command{Kind: api.CmdReport, Node: 1, Key: "k", Lease: 10, Round: 12, Net: 2}, true},
		{put(-1), 2, a, 1, api.Command{Kind: api.CmdReport, Node: 1, Key: "k", Lease: 10, Round: 12, Net: -1}, true},
		// What was spent is told though it is more than was lent.
		{put(9), 2, a, 1, api.Command{Kind: api.CmdReport, Node: 1, Key: "k", Lease: 10, Round: 12, Net: 9}, true},
		{put(top), 2, a, 1, api.Command{Kind: api.CmdReport, Node: 1, Key: "k", Lease: 10, Round: 12, Net: top}, true},
		{put(low), 2, a, 1, api.Command{Kind: api.CmdReport, Node: 1, Key: "k", Lease: 10, Round: 12, Net: low}, true},
		{put(2), 2, a, 3, api.Command{Kind: api.CmdReport, Node: 3, Key: "k", Lease: 30, Round: 12}, true},
		{list(spent(2, "k", 40, -2)), 2, a, 4, api.Command{Kind: api.CmdReport, Node: 4, Key: "k", Lease: 40, Round: 12, Net: -2}, true},
		{list(spent(2, "k", 40, -2)), 2, a, 1, api.Command{Kind: api.CmdReport, Node: 1, Key: "k", Lease: 10, Round: 12}, true},
		{put(2), 3, a, 1, api.Command{Kind: api.CmdReport, Node: 1, Key: "k", Lease: 10, Round: 12}, true},
		{put(2), 1, a, 1, api.Command{Kind: api.CmdReport, Node: 1, Key: "k", Lease: 10, Round: 12}, true},
		{put(2), 2, named(a, "j"), 1, api.Command{Kind: api.CmdReport, Node: 1, Key: "j", Lease: 10, Round: 12}, true},
		{put(2), 2, frozen(a, 1), 1, api.Command{Kind: api.CmdReport, Node: 1, Key: "k", Lease: 10, Round: 1, Net: 2}, true},
		{put(2), 2, frozen(a, top), 1, api.Command{Kind: api.CmdReport, Node: 1, Key: "k", Lease: 10, Round: top, Net: 2}, true},
		{put(2), 2, ordinary(), 1, api.Command{}, false},
		{put(2), 2, frozen(a, -1), 1, api.Command{}, false},
		{put(2), 2, a, 2, api.Command{}, false},
		{put(2), 2, a, 0, api.Command{}, false},
		{put(2), 2, a, 6, api.Command{}, false},
		{put(2), 2, a, low, api.Command{}, false},
		{put(2), 2, frozen(of(0, 10, 4), 12), 1, api.Command{}, false},
		{put(2), 2, frozen(locked(of(0, 10, 4)), 12), 1, api.Command{}, false},
		{put(2), 2, api.Account{}, 1, api.Command{}, false},
		{append(put(2), put(2)...), 2, a, 1, api.Command{}, false},
		{append(put(2), api.Right{}), 2, a, 1, api.Command{}, false},
	}
	for _, r := range rows {
		if c, is := Report(r.l, r.group, r.a, r.node); is != r.is || fmt.Sprintf("%+v", c) != fmt.Sprintf("%+v", r.want) {
			t.Errorf("Report(%s, %d, %s, %d): %+v, %v", text(r.l), r.group, show(r.a), r.node, c, is)
		}
		reports(t, r.l, r.group, r.a, r.node)
	}
}

func TestP16_4Arguments(t *testing.T) {
	for _, group := range groups {
		for _, l := range [][]api.Right{nil, put(2), list(spent(1, "k", 10, 1), spent(7, "k", 10, -1))} {
			if is := reports(t, l, group, frozen(ordinary(), 12), 1); is != (group >= 1 && group <= 7) {
				t.Errorf("Report of group %d: %v", group, is)
			}
			if reports(t, l, group, ordinary(), 1) {
				t.Errorf("Report of group %d of what is not frozen: true", group)
			}
		}
	}
	for _, a := range wrongs() {
		for _, round := range []int{a.Round, 0, 12} {
			if b := frozen(a, round); !plainRight(b) && reports(t, put(1), 2, b, 1) {
				t.Errorf("Report of %s: true", show(b))
			}
		}
	}
}

func TestP16_5Trim(t *testing.T) {
	l := list(spent(1, "k", 10, 1), spent(2, "a", 10, 2), spent(2, "k", 10, 3), spent(2, "z", 40, 4), spent(3, "k", 10, 5))
	a, free := ordinary(), of(0, 10, 4)
	const one, three, ends = `{1 "k" 10: 1}`, `{3 "k" 10: 5}`, `{1 "k" 10: 1} {3 "k" 10: 5}`
	rows := []struct {
		group    int
		accounts []api.Account
		node     int
		want     string
	}{
		{2, nil, 1, ends}, {2, []api.Account{}, 1, ends}, {2, []api.Account{free}, 1, ends},
		{2, []api.Account{a}, 1, `{1 "k" 10: 1} {2 "k" 10: 3} {3 "k" 10: 5}`},
		{2, []api.Account{frozen(a, 7)}, 1, `{1 "k" 10: 1} {2 "k" 10: 3} {3 "k" 10: 5}`},
		// Another node holds it, by that lease or by another; this one holds by another.
		{2, []api.Account{a}, 2, ends}, {2, []api.Account{a}, 4, ends}, {2, []api.Account{a}, 0, ends}, {2, []api.Account{a}, 6, ends}, {2, []api.Account{a}, top, ends},
		{2, []api.Account{of(0, 10, 4, api.Holder{Node: 2, Lease: 10})}, 1, ends}, {2, []api.Account{of(0, 10, 4, api.Holder{Node: 2, Lease: 10})}, 2, `{1 "k" 10: 1} {2 "k" 10: 3} {3 "k" 10: 5}`},
		{2, []api.Account{of(0, 10, 4, api.Holder{Node: 1, Lease: 11})}, 1, ends}, {2, []api.Account{of(0, 10, 4, api.Holder{Node: 1, Lease: 9}, api.Holder{Node: 2, Lease: 10})}, 1, ends},
		// Another key, and all of them.
		{2, []api.Account{named(a, "j")}, 1, ends}, {2, []api.Account{named(a, "k\x00")}, 1, ends}, {2, []api.Account{named(a, "a")}, 1, `{1 "k" 10: 1} {2 "a" 10: 2} {3 "k" 10: 5}`},
		{2, []api.Account{named(a, "a"), a, named(a, "z")}, 1, `{1 "k" 10: 1} {2 "a" 10: 2} {2 "k" 10: 3} {3 "k" 10: 5}`},
		{2, []api.Account{named(a, "a"), a, named(a, "z")}, 4, `{1 "k" 10: 1} {2 "z" 40: 4} {3 "k" 10: 5}`},
		// In no order, and of one key more than once: one of them is enough.
		{2, []api.Account{a, named(a, "a")}, 1, `{1 "k" 10: 1} {2 "a" 10: 2} {2 "k" 10: 3} {3 "k" 10: 5}`},
		{2, []api.Account{a, a}, 1, `{1 "k" 10: 1} {2 "k" 10: 3} {3 "k" 10: 5}`},
		{2, []api.Account{a, free}, 1, `{1 "k" 10: 1} {2 "k" 10: 3} {3 "k" 10: 5}`}, {2, []api.Account{free, a}, 1, `{1 "k" 10: 1} {2 "k" 10: 3} {3 "k" 10: 5}`},
		{2, []api.Account{a, of(0, 10, 4, api.Holder{Node: 1, Lease: 11})}, 1, `{1 "k" 10: 1} {2 "k" 10: 3} {3 "k" 10: 5}`}, {2, []api.Account{of(0, 10, 4, api.Holder{Node: 1, Lease: 11}), a}, 1, `{1 "k" 10: 1} {2 "k" 10: 3} {3 "k" 10: 5}`},
		// Other groups.
		{1, nil, 1, text(l[1:])}, {3, nil, 1, text(l[:4])}, {1, []api.Account{a}, 1, text(l)}, {3, []api.Account{a}, 1, text(l)}, {4, nil, 1, text(l)}, {7, []api.Account{a}, 1, text(l)},
		{0, nil, 1, text(l)}, {8, nil, 1, text(l)}, {-2, nil, 1, text(l)}, {1<<32 + 2, nil, 1, text(l)}, {low, []api.Account{a}, 1, text(l)}, {top, nil, 1, text(l)},
	}
	for _, r := range rows {
		if got, e := Trim(l, r.group, r.accounts, r.node); e != api.OK || text(got) != r.want {
			t.Errorf("Trim(%d, %s, %d): %s, error %d; want %s", r.group, show(r.accounts...), r.node, text(got), e, r.want)
		}
		trims(t, l, r.group, r.accounts, r.node)
		trims(t, nil, r.group, r.accounts, r.node)
		trims(t, list(), r.group, r.accounts, r.node)
	}
}

// Nothing hangs on what was spent.
func TestP16_5WhateverWasSpent(t *testing.T) {
	for _, net := range edges {
		if got, e := trims(t, put(net), 2, []api.Account{ordinary()}, 1); e != api.OK || len(got) != 1 {
			t.Errorf("Trim(%s): %s, error %d", text(put(net)), text(got), e)
		}
		if got, e := trims(t, put(net), 2, []api.Account{ordinary()}, 3); e != api.OK || len(got) != 0 {
			t.Errorf("Trim(%s) of another node: %s, error %d", text(put(net)), text(got), e)
		}
	}
}

func TestP16_5Wrong(t *testing.T) {
	for _, a := range wrongs() {
		for _, l := range [][]api.Right{nil, put(1), {spent(1, "z", 1, 1)}} {
			for _, accounts := range [][]api.Account{{a}, {ordinary(), a}, {a, ordinary()}, {a, a}, {of(0, 9, 9), a, of(0, 9, 9)}} {
				for _, group := range []int{0, 1, 2, 8} {
					if got, e := Trim(l, group, accounts, 1); e != api.ErrForm || got != nil {
						t.Errorf("Trim(%s, %d, %s): %s, error %d", text(l), group, show(accounts...), text(got), e)
					}
				}
			}
		}
	}
}

// Of each set of rights, whichever of them are held: all of the group that are
// not go, and nothing else.
func TestP16_5OfAll(t *testing.T) {
	for _, l := range subsets() {
		for set := range 1 << 6 {
			var accounts []api.Account
			for i, r := range spots() {
				h := api.Holder{Node: 2, Lease: r.Lease, Up: 1}
				if set>>i&1 == 1 {
					accounts = append(accounts, named(of(0, 10, 4, h, lends(4, 1, 1)), r.Key))
				}
			}
			slices.Reverse(accounts)
			for _, group := range []int{1, 2, 5} {
				trims(t, l, group, accounts, 2)
				trims(t, l, group, accounts, 4)
			}
		}
	}
}

func TestP16_5Large(t *testing.T) {
	l := large(20000)
	var accounts []api.Account
	var want []api.Right
	for i, r := range l {
		if r.Group == 3 && i%3 == 0 {
			accounts = append(accounts, named(of(0, 10, 4, api.Holder{Node: 5, Lease: r.Lease}), r.Key))
		}
		if r.Group != 3 || i%3 == 0 {
			want = append(want, r)
		}
	}
	slices.Reverse(accounts)
	got, e := Trim(l, 3, accounts, 5)
	if e != api.OK || !slices.Equal(got, want) {
		t.Errorf("Trim: %d rights, error %d; want %d", len(got), e, len(want))
	}
}

// Each small account, each small sum that was spent, each small n.
func TestP16EachOfSmallOnes(t *testing.T) {
	for set := range 3 * 3 * 3 * 3 * 2 {
		up, down, rise, fall, round := set%3, set/3%3, set/9%3, set/27%3, 7*(set/81)
		for base := -1; base <= 1; base++ {
			a := frozen(of(base-down-fall, base+up+rise, base, api.Holder{Node: 2, Lease: 3, Up: up, Down: down}), round)
			for now := -4; now <= 4; now++ {
				for n := -5; n <= 5; n++ {
					for _, lease := range []int{3, 4} {
						all(t, list(spent(1, "k", lease, now)), 1, a, 2, n)
					}
				}
			}
		}
	}
}
