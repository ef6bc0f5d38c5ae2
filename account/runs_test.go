package account

import (
	"fmt"
	"math/big"
	"math/rand"
	"slices"
	"testing"

	"purse/api"
)

// someInt is an int about zero, about an edge, about near, or any.
func someInt(r *rand.Rand, near int) int {
	switch r.Intn(6) {
	case 0:
		return edges[r.Intn(len(edges))]
	case 1:
		return int(r.Uint64())
	case 2, 3:
		return near + r.Intn(5) - 2
	}
	return r.Intn(25) - 12
}

// somePart is from 0 to room, mostly a little or all but a little.
func somePart(r *rand.Rand, room uint64) int {
	most := uint64(min(room, top))
	switch n := uint64(r.Intn(4)); r.Intn(4) {
	case 0:
		return int(min(n, most))
	case 1:
		return int(most - min(n, most))
	}
	if most == top {
		return r.Int()
	}
	return int(r.Uint64() % (most + 1))
}

// someRight is an account that is right, and that nobody's run has made.
func someRight(r *rand.Rand) api.Account {
	l := []int{someInt(r, 0), someInt(r, 0), someInt(r, 0)}
	slices.Sort(l)
	if r.Intn(4) == 0 {
		l[0], l[2] = low, top
	}
	a := of(l[0], l[2], l[1])
	a.Key = keys(1 + r.Intn(16))[r.Intn(7)]
	switch r.Intn(3) {
	case 0:
		a.Round = 1 + somePart(r, top-1)
	case 1:
		a.Round = 1 + r.Intn(3)
	}
	if r.Intn(4) == 0 {
		to := of(l[0], l[2], l[1])
		fall, rise := Room(to)
		a.Lock = api.Lock{Client: 1 + r.Intn(8), Seq: 1 + r.Intn(9), Home: 1 + r.Intn(7), N: somePart(r, rise)}
		if r.Intn(2) == 0 {
			a.Lock.N = -somePart(r, fall)
		}
		return a
	}
	if r.Intn(3) == 0 {
		return a
	}
	for node := 1; node <= 5; node++ {
		if r.Intn(2) == 0 {
			fall, rise := plainRoom(a)
			a.Holders = append(a.Holders, api.Holder{Node: node, Lease: 1 + r.Intn(4), Up: somePart(r, rise.Uint64()), Down: somePart(r, fall.Uint64())})
		}
	}
	return a
}

// someAccount is mostly right, and else with one thing that may not be, or that
// may be by chance.
func someAccount(r *rand.Rand) api.Account {
	a := someRight(r)
	if r.Intn(4) > 0 {
		return a
	}
	fields := []*int{&a.Span.Lo, &a.Span.Hi, &a.Base, &a.Round, &a.Lock.Client, &a.Lock.Seq, &a.Lock.Home, &a.Lock.N}
	for i := range a.Holders {
		h := &a.Holders[i]
		fields = append(fields, &h.Node, &h.Lease, &h.Up, &h.Down)
	}
	switch n := r.Intn(len(fields) + 2); n {
	case len(fields):
		a.Key = keys(r.Intn(20))[r.Intn(7)]
	case len(fields) + 1:
		a.Holders = append(a.Holders, lends(1+r.Intn(6), r.Intn(2), r.Intn(2)))
	default:
		*fields[n] = someInt(r, *fields[n])
	}
	return a
}

// someWish is a call with arguments that may do with a, or not.
func someWish(r *rand.Rand, a api.Account) wish {
	fall, rise := plainRoom(a)
	room := int(rise.Uint64())
	if r.Intn(2) == 0 {
		room = -int(fall.Uint64())
	}
	h := api.Holder{Node: 1 + r.Intn(5), Lease: 1 + r.Intn(4)}
	if len(a.Holders) > 0 && r.Intn(4) > 0 {
		h = a.Holders[r.Intn(len(a.Holders))]
	}
	nearly := func(n, others int) int {
		if r.Intn(others) > 0 {
			return n
		}
		return someInt(r, n)
	}
	switch r.Intn(10) {
	case 0, 1:
		return add(someInt(r, room))
	case 2, 3:
		nodes := nearly(1+r.Intn(5), 12)
		return grant(nearly(1+r.Intn(max(1, min(5, nodes))), 12), nearly(1+r.Intn(9), 12), nodes)
	case 4:
		return freeze(nearly(7, 2))
	case 5:
		return thaw()
	case 6, 7:
		net := []int{h.Up, -h.Down, 0}[r.Intn(3)]
		return report(nearly(h.Node, 12), nearly(h.Lease, 12), nearly(a.Round, 12), nearly(net, 2))
	case 8:
		return bounds(nearly(a.Base, 2), nearly(a.Base, 2))
	}
	if locked := a.Lock.Client != 0; locked == (r.Intn(8) > 0) {
		return free(r.Intn(2) == 0)
	}
	return take(api.Lock{Client: nearly(3, 12), Seq: nearly(4, 12), Home: nearly(1+r.Intn(7), 12), N: someInt(r, room)})
}

// Whatever accounts and arguments: each call answers as the chapter's words say.
func TestP15RunsAgainstPlainWords(t *testing.T) {
	seen := map[string]int{}
	for seed := range 40000 {
		r := rand.New(rand.NewSource(int64(seed)))
		a := someAccount(r)
		was := text(a)
		tells(t, a)
		seen[fmt.Sprintf("right %v", plainRight(a))]++
		for range 8 {
			w := someWish(r, a)
			seen[fmt.Sprintf("%s %d", w.what, does(t, a, w))]++
		}
		if text(a) != was || t.Failed() {
			t.Fatalf("run %d: %s is %s", seed, was, text(a))
		}
	}
	for _, what := range []string{
		"right true", "right false", "Add 0", "Add 1", "Add 21", "Add 150", "Add 152", "Grant 0", "Grant 1", "Grant 21", "Grant 152",
		"Freeze 0", "Freeze 1", "Freeze 21", "Thaw 0", "Thaw 21", "Report 0", "Report 21", "Report 150", "Report 151", "Report 152",
		"Bounds 0", "Bounds 21", "Bounds 150", "Bounds 152", "Take 0", "Take 1", "Take 21", "Take 150", "Take 152", "Free 0", "Free 21", "Free 60",
	} {
		if seen[what] < 200 {
			t.Errorf("just %d times %q: the runs don't go along the edges: %v", seen[what], what, seen)
		}
	}
}

// small goes through each account of few numbers, right or not: bounds and Bases
// from -2 to 2, up to two holders, frozen or not, locked or not.
func small(do func(a api.Account)) {
	holders := [][]api.Holder{nil, {lends(2, 0, 0)}}
	for up := -1; up <= 2; up++ {
		for down := -1; down <= 2; down++ {
			holders = append(holders, []api.Holder{lends(2, up, down)}, []api.Holder{lends(1, up, 1), lends(3, 1, down)})
		}
	}
	for lo := -2; lo <= 2; lo++ {
		for hi := -2; hi <= 2; hi++ {
			for base := -2; base <= 2; base++ {
				for _, l := range holders {
					do(of(lo, hi, base, l...))
					do(frozen(of(lo, hi, base, l...), 7))
				}
				for n := -4; n <= 4; n++ {
					do(locked(of(lo, hi, base), lock(n)))
				}
			}
		}
	}
}

func TestP15EachOfSmallOnes(t *testing.T) {
	wishes := []wish{thaw(), free(true), free(false), freeze(9), grant(1, 9, 1), grant(2, 9, 2), grant(2, 9, 3), grant(3, 9, 5)}
	for n := -5; n <= 5; n++ {
		wishes = append(wishes, add(n), take(lock(n)), report(1, 10, 7, n), report(2, 20, 7, n), report(3, 30, 7, n))
		for hi := -2; hi <= 2; hi++ {
			wishes = append(wishes, bounds(n, hi))
		}
	}
	accounts := 0
	small(func(a api.Account) {
		accounts++
		if !plainRight(a) {
			if e := Check(a); e != api.ErrForm {
				t.Errorf("Check(%s): error %d", text(a), e)
			}
			return
		}
		tells(t, a)
		for _, w := range wishes {
			does(t, a, w)
		}
	})
	if accounts != 125*(2*34+9) {
		t.Errorf("%d accounts", accounts)
	}
}

// Each pair of edges as bounds, each as the Base, each as what is added, spent or
// locked.
func TestP15EachOfEdges(t *testing.T) {
	for _, lo := range edges {
		for _, hi := range edges {
			for _, base := range edges {
				a := of(lo, hi, base)
				tells(t, a)
				if !plainRight(a) {
					continue
				}
				fall, rise := plainRoom(a)
				b := frozen(of(lo, hi, base, api.Holder{Node: 2, Lease: 5, Up: int(min(rise.Uint64(), top)), Down: int(min(fall.Uint64(), top))}), 9)
				for nodes := range 7 {
					does(t, a, grant(nodes, 9, nodes))
					does(t, frozen(b, 0), grant(2, 9, nodes))
				}
				for _, n := range edges {
					does(t, a, add(n))
					does(t, a, take(lock(n)))
					does(t, b, add(n))
					does(t, b, report(2, 5, 9, n))
					tells(t, locked(a, lock(n)))
					if plainRight(locked(a, lock(n))) {
						does(t, locked(a, lock(n)), free(true))
					}
				}
			}
		}
	}
}

// A counter is an account in a run: what its holders have spent, by nodes, what
// the total is, and which reports there were.
type counter struct {
	api.Account
	spent   map[int]int
	total   *big.Int
	lease   int
	reports []wish
}

// begun is a counter of bounds that turn about somewhere.
func begun(r *rand.Rand) *counter {
	a := someRight(r)
	a.Round, a.Holders, a.Lock = 0, nil, api.Lock{}
	return &counter{Account: a, spent: map[int]int{}, total: wide(a.Base)}
}

// next is what may be asked of the counter. Leases and rounds are greater than
// all ahead of them, and no report tells of a lease what was not spent of it, but
// by more than was lent.
func (c *counter) next(r *rand.Rand) wish {
	c.lease++
	w := someWish(r, c.Account)
	switch n := r.Intn(10); {
	case n == 0:
		w = grant(1+r.Intn(5), c.lease, 5)
	case n <= 3 && len(c.Holders) > 0 && c.Round != 0:
		h := c.Holders[r.Intn(len(c.Holders))]
		w = report(h.Node, h.Lease, c.Round, c.spent[h.Node])
	case n == 4 && len(c.reports) > 0:
		w = c.reports[r.Intn(len(c.reports))]
	}
	switch w.what {
	case "Grant":
		w.lease = c.lease
	case "Freeze":
		w.round = c.lease
	case "Report":
		if h, is := Find(c.Account, w.node); is && h.Lease == w.lease && w.n >= -h.Down && w.n <= h.Up {
			w.n = c.spent[w.node]
		}
	}
	return w
}

// spend lets one of the holders spend something of what it holds.
func (c *counter) spend(r *rand.Rand) {
	if len(c.Holders) == 0 {
		return
	}
	h := c.Holders[r.Intn(len(c.Holders))]
	to := somePart(r, uint64(h.Up))
	if r.Intn(2) == 0 {
		to = -somePart(r, uint64(h.Down))
	}
	c.total.Add(c.total, sum(to)).Sub(c.total, sum(c.spent[h.Node]))
	c.spent[h.Node] = to
}

// step lets the counter do w. It tells the call and its error.
func (c *counter) step(t *testing.T, w wish) string {
	was := c.Account
	e := does(t, was, w)
	if e == api.OK {
		c.Account, _ = w.ask(was)
	}
	switch {
	case e != api.OK:
	case w.what == "Add":
		c.total.Add(c.total, wide(w.n))
	case w.what == "Free" && w.commit:
		c.total.Add(c.total, wide(was.Lock.N))
	case w.what == "Report":
		c.spent[w.node] = 0
		c.reports = append(c.reports, w)
	}
	return fmt.Sprintf("%s %d", w.what, e)
}

// holds fails, if the counter is not right, if its total is not what was done, or
// if anything that its holders may have spent is beyond its bounds.
func (c *counter) holds(t *testing.T) {
	t.Helper()
	if e := Check(c.Account); e != api.OK {
		t.Fatalf("%s is not right: error %d", text(c.Account), e)
	}
	now := wide(c.Base)
	for _, h := range c.Holders {
		if n := c.spent[h.Node]; n < -h.Down || n > h.Up {
			t.Fatalf("%s: node %d has spent %d", text(c.Account), h.Node, n)
		}
		now.Add(now, wide(c.spent[h.Node]))
	}
	if now.Cmp(c.total) != 0 || !within(c.Span, now) {
		t.Fatalf("%s: with what was spent it is %d; want %d", text(c.Account), now, c.total)
	}
	// Each holder has spent all its Up, or all its Down, one by one.
	for set := range 1 << len(c.Holders) {
		all := wide(c.Base)
		for i, h := range c.Holders {
			if set>>i&1 == 1 {
				all.Add(all, wide(h.Up))
			} else {
				all.Sub(all, wide(h.Down))
			}
		}
		if !within(c.Span, all) {
			t.Fatalf("%s: it may come to %d", text(c.Account), all)
		}
	}
}

// P15.7: a right account stays right, and within its bounds, whatever is asked and
// spent.
func TestP15_7LongRuns(t *testing.T) {
	seen := map[string]int{}
	for seed := range 300 {
		r := rand.New(rand.NewSource(int64(seed)))
		c := begun(r)
		for range 400 {
			c.spend(r)
			seen[c.step(t, c.next(r))]++
			c.holds(t)
			seen[fmt.Sprint(len(c.Holders), " holders")]++
			if t.Failed() {
				t.FailNow()
			}
		}
	}
	for _, what := range []string{
		"Add 0", "Add 1", "Add 150", "Add 152", "Grant 0", "Grant 1", "Grant 152", "Freeze 0", "Thaw 0", "Report 0", "Report 150", "Report 151", "Report 152",
		"Bounds 0", "Bounds 150", "Bounds 152", "Take 0", "Take 1", "Take 150", "Take 152", "Free 0", "Free 60", "0 holders", "1 holders", "2 holders", "3 holders", "4 holders", "5 holders",
	} {
		if seen[what] < 200 {
			t.Errorf("just %d times %q: %v", seen[what], what, seen)
		}
	}
}

// Once it is frozen and all have reported, the total is what was done, in
// whatever order they report.
func TestP15_7AllReport(t *testing.T) {
	for seed := range 2000 {
		r := rand.New(rand.NewSource(int64(seed)))
		c := begun(r)
		for range 1 + r.Intn(20) {
			c.step(t, grant(1+r.Intn(5), 1+r.Intn(9), 5))
			c.step(t, add(someInt(r, 0)))
			c.spend(r)
		}
		c.step(t, freeze(99))
		for len(c.Holders) > 0 && !t.Failed() {
			h := c.Holders[r.Intn(len(c.Holders))]
			c.step(t, report(h.Node, h.Lease, 99, c.spent[h.Node]))
			c.holds(t)
		}
		if v, is := Total(c.Account); !is || wide(v).Cmp(c.total) != 0 {
			t.Fatalf("seed %d: Total(%s): %d, %v; want %d", seed, text(c.Account), v, is, c.total)
		}
	}
}

// R2: what a call answers hangs on its arguments alone.
func TestR2Again(t *testing.T) {
	for seed := range 3000 {
		r := rand.New(rand.NewSource(int64(seed)))
		a := someAccount(r)
		b := a
		b.Holders = append(make([]api.Holder, 0, 50), a.Holders...)
		w := someWish(r, a)
		first, e := w.ask(a)
		someWish(r, b).ask(b)
		if second, f := w.ask(b); text(first) != text(second) || e != f {
			t.Fatalf("seed %d: %+v: %s, error %d, and again %s, error %d", seed, w, text(first), e, text(second), f)
		}
	}
}
