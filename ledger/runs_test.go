package ledger

import (
	"fmt"
	"math/big"
	"math/rand"
	"slices"
	"testing"

	"purse/account"
	"purse/api"
)

// someInt is an int about zero, about an edge, about near, or any.
func someInt(r *rand.Rand, near int) int {
	switch r.Intn(6) {
	case 0:
		return edges[r.Intn(len(edges))]
	case 1:
		return int(r.Uint64())
	case 2, 3:
		return near + r.Intn(5) - 2
	}
	return r.Intn(25) - 12
}

// somePart is from 0 to room, mostly a little or all but a little.
func somePart(r *rand.Rand, room uint64) int {
	most := uint64(min(room, top))
	switch n := uint64(r.Intn(4)); r.Intn(4) {
	case 0:
		return int(min(n, most))
	case 1:
		return int(most - min(n, most))
	}
	if most == top {
		return r.Int()
	}
	return int(r.Uint64() % (most + 1))
}

// someKey is one of few keys.
func someKey(r *rand.Rand) string {
	return []string{"a", "b", "k", "k\x00", "\xff", "0123456789abcdef"}[r.Intn(6)]
}

// someRight is a right that may stand in a ledger, and is of few groups, keys and
// leases.
func someRight(r *rand.Rand) api.Right {
	return spent([]int{1, 2, 3, 7}[r.Intn(4)], someKey(r), 1+r.Intn(4), someInt(r, 0))
}

// someLedger is mostly a ledger, and else a list with one thing that may not be,
// or that may be by chance.
func someLedger(r *rand.Rand) []api.Right {
	var l []api.Right
	for range r.Intn(10) {
		l, _ = plainPut(l, someRight(r))
	}
	if len(l) == 0 || r.Intn(5) > 0 {
		return l
	}
	at := r.Intn(len(l))
	switch r.Intn(5) {
	case 0:
		l[at].Group = someInt(r, l[at].Group)
	case 1:
		l[at].Key = []string{"", "a", "l", "0123456789abcdefg"}[r.Intn(4)]
	case 2:
		l[at].Lease = someInt(r, l[at].Lease)
	case 3:
		l = slices.Insert(l, at, l[at])
	case 4:
		other := r.Intn(len(l))
		l[at], l[other] = l[other], l[at]
	}
	return l
}

// someAccount is mostly a right one with holders, and else one with one thing
// that may not be, or that may be by chance.
func someAccount(r *rand.Rand) api.Account {
	l := []int{someInt(r, 0), someInt(r, 0), someInt(r, 0)}
	slices.Sort(l)
	if r.Intn(4) == 0 {
		l[0], l[2] = low, top
	}
	a := named(of(l[0], l[2], l[1]), someKey(r))
	if r.Intn(3) == 0 {
		a.Round = 1 + r.Intn(3)
	}
	if r.Intn(10) == 0 {
		return locked(a)
	}
	for node := 1; node <= 5; node++ {
		if r.Intn(3) > 0 {
			fall, rise := account.Room(a)
			a.Holders = append(a.Holders, api.Holder{Node: node, Lease: 1 + r.Intn(4), Up: somePart(r, rise), Down: somePart(r, fall)})
		}
	}
	if r.Intn(6) > 0 {
		return a
	}
	fields := []*int{&a.Span.Lo, &a.Span.Hi, &a.Base, &a.Round, &a.Lock.Client, &a.Lock.N}
	for i := range a.Holders {
		h := &a.Holders[i]
		fields = append(fields, &h.Node, &h.Lease, &h.Up, &h.Down)
	}
	at := fields[r.Intn(len(fields))]
	*at = someInt(r, *at)
	return a
}

// asked asks one thing, and tells which, and what came of it.
func asked(t *testing.T, r *rand.Rand, l []api.Right, a api.Account) string {
	near := func(n, others int) int {
		if r.Intn(others) > 0 {
			return n
		}
		return someInt(r, n)
	}
	s, h := someRight(r), api.Holder{Node: 1 + r.Intn(5), Lease: 1 + r.Intn(4)}
	if len(l) > 0 && r.Intn(4) > 0 {
		s = l[r.Intn(len(l))]
	}
	if len(a.Holders) > 0 && r.Intn(6) > 0 {
		h = a.Holders[r.Intn(len(a.Holders))]
	}
	group, node := near(s.Group, 10), near(h.Node, 12)
	if r.Intn(3) > 0 && len(l) > 0 {
		// What is put down of that account, if it may be.
		l[r.Intn(len(l))] = spent(s.Group, a.Key, h.Lease, []int{0, h.Up, -h.Down, someInt(r, 0)}[r.Intn(4)])
	}
	now := plainNet(l, group, a.Key, h.Lease)
	switch r.Intn(8) {
	case 0:
		_, e := puts(t, l, spent(near(s.Group, 4), s.Key, near(s.Lease, 4), s.Net))
		return fmt.Sprintf("Put %d", e)
	case 1:
		checks(t, l)
		return fmt.Sprintf("Net %v", nets(t, l, near(s.Group, 6), s.Key, near(s.Lease, 6)) != 0)
	case 2, 3:
		n := []int{h.Up - now, -h.Down - now, someInt(r, 0)}[r.Intn(3)]
		return fmt.Sprintf("Spend %d", spends(t, l, group, a, node, near(n, 4)))
	case 4:
		return fmt.Sprintf("Bracket %d", brackets(t, l, group, a, node))
	case 5:
		return fmt.Sprintf("Report %v", reports(t, l, group, a, node))
	}
	accounts := []api.Account{a}
	for range r.Intn(6) {
		b := someAccount(r)
		for r.Intn(8) > 0 && !plainRight(b) {
			b = someAccount(r)
		}
		accounts = slices.Insert(accounts, r.Intn(len(accounts)+1), b)
	}
	was := text(l)
	got, e := trims(t, l, group, accounts, node)
	return fmt.Sprintf("Trim %d, all stay %v", e, text(got) == was)
}

// Whatever ledgers, accounts and arguments: each call answers as the chapter's
// words say.
func TestP16RunsAgainstPlainWords(t *testing.T) {
	met := map[string]int{}
	for seed := range 60000 {
		r := rand.New(rand.NewSource(int64(seed)))
		for range 4 {
			met[asked(t, r, someLedger(r), someAccount(r))]++
		}
		if t.Failed() {
			t.Fatalf("run %d", seed)
		}
	}
	for _, what := range []string{
		"Put 0", "Put 1", "Put 21", "Net true", "Net false", "Spend 0", "Spend 1", "Spend 21", "Spend 150", "Spend 151", "Spend 152",
		"Bracket 0", "Bracket 1", "Bracket 21", "Bracket 150", "Bracket 151", "Bracket 152", "Report true", "Report false", "Trim 0, all stay true", "Trim 0, all stay false", "Trim 21, all stay false",
	} {
		if met[what] < 200 {
			t.Errorf("just %d times %q: the runs don't go along the edges: %v", met[what], what, met)
		}
	}
}

// A counter is an account in a run: its group; all that it was, of which the last
// is what it is; its total, as a plain counter has it; what was reported of it;
// the greatest lease or round that there was.
type counter struct {
	group int
	was   []api.Account
	total *big.Int
	told  []api.Command
	last  int
}

func (c *counter) now() api.Account { return c.was[len(c.was)-1] }

// A seer is a node in a run: its ledger, and how far it has seen each counter.
type seer struct {
	node   int
	rights []api.Right
	seen   []int
}

// A world is a run of counters and nodes.
type world struct {
	t        *testing.T
	r        *rand.Rand
	counters []*counter
	nodes    []*seer
	met      map[string]int
}

// begun is a world of counters whose bounds turn about somewhere.
func begun(t *testing.T, seed int, met map[string]int) *world {
	w := &world{t: t, r: rand.New(rand.NewSource(int64(seed))), met: met}
	for _, s := range []api.Right{{Group: 1, Key: "b"}, {Group: 2, Key: "a"}, {Group: 2, Key: "b"}, {Group: 7, Key: "a"}} {
		l := []int{someInt(w.r, 0), someInt(w.r, 0), someInt(w.r, 0)}
		slices.Sort(l)
		switch w.r.Intn(4) {
		case 0:
			l[0], l[2] = low, top
		case 1:
			l[0], l[1], l[2] = 0, 10+w.r.Intn(10), 40
		}
		a := named(of(l[0], l[2], l[1]), s.Key)
		w.counters = append(w.counters, &counter{group: s.Group, was: []api.Account{a}, total: wide(a.Base)})
	}
	for node := 1; node <= 5; node++ {
		w.nodes = append(w.nodes, &seer{node: node, seen: make([]int, len(w.counters))})
	}
	return w
}

// change lets the account change as chapter 15 says. Of what it is frozen for
// there are holders that report: so it thaws seldom ahead of that.
func (w *world) change(c *counter) {
	now, what, by := c.now(), "", 0
	var next api.Account
	var e api.Errno
	c.last += 1 + w.r.Intn(3)
	switch n := w.r.Intn(20); {
	case n < 3:
		fall, rise := account.Room(now)
		what, by = "Add", []int{somePart(w.r, rise), -somePart(w.r, fall), someInt(w.r, 0)}[w.r.Intn(3)]
		next, e = account.Add(now, by)
	case n < 11:
		what = "Grant"
		next, e = account.Grant(now, 1+w.r.Intn(5), c.last, 5)
	case n < 14:
		what = "Freeze"
		next, e = account.Freeze(now, c.last)
	case n < 16 && (len(now.Holders) == 0 || w.r.Intn(3) == 0):
		what = "Thaw"
		next, e = account.Thaw(now)
	case n == 16:
		what = "Bounds"
		next, e = account.Bounds(now, api.Span{Lo: someInt(w.r, now.Span.Lo), Hi: someInt(w.r, now.Span.Hi)})
	case n == 17:
		what = "Take"
		next, e = account.Take(now, api.Lock{Client: 1, Seq: c.last, Home: 3, N: someInt(w.r, 0)})
	default:
		what = "Free"
		commit := w.r.Intn(2) == 0
		if commit {
			by = now.Lock.N
		}
		next, e = account.Free(now, commit)
	}
	w.met[fmt.Sprintf("%s %d", what, e)]++
	if e == api.OK {
		c.was = append(c.was, next)
		c.total.Add(c.total, wide(by))
	}
}

// count lets one of the reports count, which may have done so before, and long
// ago.
func (w *world) count(c *counter) {
	if len(c.told) == 0 {
		return
	}
	at := len(c.told) - 1 - w.r.Intn(min(len(c.told), 1+w.r.Intn(12)))
	r := c.told[at]
	next, e := account.Report(c.now(), r.Node, r.Lease, r.Round, r.Net)
	w.met[fmt.Sprintf("a report counts %d", e)]++
	if e == api.OK {
		c.was = append(c.was, next)
	}
}

// see lets the node see the counter as it is, or as it was, but not as it was
// ahead of what it has seen.
func (w *world) see(s *seer, i int) {
	left := len(w.counters[i].was) - 1 - s.seen[i]
	switch w.r.Intn(3) {
	case 0:
		s.seen[i] += min(left, 1)
	case 1:
		s.seen[i] += w.r.Intn(left + 1)
	default:
		s.seen[i] += left
	}
}

// spend lets the node spend something of what it sees that it holds.
func (w *world) spend(s *seer, i int) {
	c := w.counters[i]
	a := c.was[s.seen[i]]
	h, _ := plainHolder(a, s.node)
	now := plainNet(s.rights, c.group, a.Key, h.Lease)
	n := []int{1, -1, someInt(w.r, 0), somePart(w.r, uint64(h.Up)) - now, -somePart(w.r, uint64(h.Down)) - now}[w.r.Intn(5)]
	right, e := Spend(s.rights, c.group, a, s.node, n)
	w.met[fmt.Sprintf("Spend %d, of what is seen late %v", e, s.seen[i] < len(c.was)-1)]++
	if e != api.OK {
		return
	}
	if s.rights, e = Put(s.rights, right); e != api.OK {
		w.t.Fatalf("Put: error %d", e)
	}
	c.total.Add(c.total, wide(n))
}

// tell lets the node report what it sees frozen.
func (w *world) tell(s *seer, i int) {
	c := w.counters[i]
	r, is := Report(s.rights, c.group, c.was[s.seen[i]], s.node)
	w.met[fmt.Sprintf("Report %v", is)]++
	if is {
		c.told = append(c.told, r)
	}
}

// trim lets the node forget what it sees that it does not hold any more.
func (w *world) trim(s *seer) {
	group := w.counters[w.r.Intn(len(w.counters))].group
	var accounts []api.Account
	for i, c := range w.counters {
		if c.group == group {
			accounts = append(accounts, c.was[s.seen[i]])
		}
	}
	l, e := Trim(s.rights, group, accounts, s.node)
	w.met[fmt.Sprintf("Trim %d, all stay %v", e, len(l) == len(s.rights))]++
	s.rights = l
}

// bracket asks between which numbers the total lies, as the node sees it: it does.
func (w *world) bracket(s *seer, i int) {
	c := w.counters[i]
	from, to, e := Bracket(s.rights, c.group, c.was[s.seen[i]], s.node)
	w.met[fmt.Sprintf("Bracket %d, of what is seen late %v", e, s.seen[i] < len(c.was)-1)]++
	if e == api.OK && (c.total.Cmp(wide(from)) < 0 || c.total.Cmp(wide(to)) > 0) {
		w.t.Fatalf("node %d: Bracket of %s is %d, %d; the total is %d", s.node, show(c.now()), from, to, c.total)
	}
}

// holds fails, if Base and what the holders have spent are not the total, or not
// within the bounds, or if one has spent what is not lent to it.
func (w *world) holds(c *counter) {
	now := c.now()
	all := wide(now.Base)
	for _, h := range now.Holders {
		net := wide(Net(w.nodes[h.Node-1].rights, c.group, now.Key, h.Lease))
		if !within(h, net) {
			w.t.Fatalf("%s: node %d has spent %d", show(now), h.Node, net)
		}
		all.Add(all, net)
	}
	if all.Cmp(c.total) != 0 || all.Cmp(wide(now.Span.Lo)) < 0 || all.Cmp(wide(now.Span.Hi)) > 0 {
		w.t.Fatalf("%s: with what was spent it is %d; want %d", show(now), all, c.total)
	}
}

// step lets something happen.
func (w *world) step() {
	i := w.r.Intn(len(w.counters))
	c, s := w.counters[i], w.nodes[w.r.Intn(len(w.nodes))]
	switch n := w.r.Intn(20); {
	case n < 5:
		w.change(c)
	case n < 9:
		w.see(s, i)
	case n < 12:
		w.spend(s, i)
	case n < 15:
		w.tell(s, i)
	case n < 18:
		w.count(c)
	case n == 18:
		w.trim(s)
	default:
		w.bracket(s, i)
	}
}

// P16.6: whatever is seen, however late, and reported, however often, the total
// stays within the bounds, and within each Bracket.
func TestP16_6LongRuns(t *testing.T) {
	met := map[string]int{}
	for seed := range 400 {
		w := begun(t, seed, met)
		for range 3000 {
			w.step()
			for _, c := range w.counters {
				w.holds(c)
			}
		}
		for _, s := range w.nodes {
			checks(t, s.rights)
			for i := range w.counters {
				w.bracket(s, i)
			}
		}
	}
	for _, what := range []string{
		"Add 0", "Add 150", "Add 152", "Grant 0", "Grant 152", "Freeze 0", "Thaw 0", "Bounds 0", "Bounds 150", "Bounds 152", "Take 0", "Take 150", "Take 152", "Free 0",
		"a report counts 0", "a report counts 151", "a report counts 152", "Report true", "Report false", "Trim 0, all stay true", "Trim 0, all stay false",
		"Spend 0, of what is seen late true", "Spend 0, of what is seen late false", "Spend 150, of what is seen late true", "Spend 151, of what is seen late true", "Spend 152, of what is seen late true",
		"Bracket 0, of what is seen late true", "Bracket 0, of what is seen late false", "Bracket 151, of what is seen late true", "Bracket 152, of what is seen late true",
	} {
		if met[what] < 200 {
			t.Errorf("just %d times %q: %v", met[what], what, met)
		}
	}
	if met["a report counts 150"] > 0 {
		t.Errorf("a report tells of more than was lent: %v", met)
	}
}

// A scene is a world of one counter and two nodes, as a value.
type scene struct {
	was    []api.Account
	seen   [2]int
	rights [2][]api.Right
	told   []api.Command
	total  int
}

// key is all of the scene that anything may hang on.
func (s scene) key() string {
	from := min(s.seen[0], s.seen[1])
	return fmt.Sprint(s.was[from:], s.seen[0]-from, s.seen[1]-from, s.rights, s.told, s.total)
}

// next is each scene that one step may lead to. A lease or a round is the number
// of what there was.
func (s scene) next() []scene {
	var out []scene
	with := func(a api.Account, e api.Errno, by int) {
		if e == api.OK && fmt.Sprint(a) != fmt.Sprint(s.was[len(s.was)-1]) {
			k := s
			k.was = append(slices.Clone(s.was), a)
			k.total += by
			out = append(out, k)
		}
	}
	now := s.was[len(s.was)-1]
	to := func(a api.Account, e api.Errno) { with(a, e, 0) }
	to(account.Grant(now, 1, len(s.was), 2))
	to(account.Grant(now, 2, len(s.was), 2))
	to(account.Freeze(now, len(s.was)))
	to(account.Thaw(now))
	a, e := account.Add(now, 2)
	with(a, e, 2)
	for _, r := range s.told {
		to(account.Report(now, r.Node, r.Lease, r.Round, r.Net))
	}
	for i := range 2 {
		out = append(out, s.by(i)...)
	}
	return out
}

// by is each scene that one step of one node may lead to.
func (s scene) by(i int) []scene {
	var out []scene
	for _, seen := range []int{s.seen[i] + 1, len(s.was) - 1} {
		if seen < len(s.was) {
			k := s
			k.seen[i] = seen
			out = append(out, k)
		}
	}
	a := s.was[s.seen[i]]
	for _, n := range []int{1, -1} {
		if r, e := Spend(s.rights[i], 2, a, i+1, n); e == api.OK {
			k := s
			k.rights[i], _ = Put(s.rights[i], r)
			k.total += n
			out = append(out, k)
		}
	}
	if r, is := Report(s.rights[i], 2, a, i+1); is && !slices.ContainsFunc(s.told, func(c api.Command) bool { return fmt.Sprint(c) == fmt.Sprint(r) }) {
		k := s
		k.told = append(slices.Clone(s.told), r)
		out = append(out, k)
	}
	if l, _ := Trim(s.rights[i], 2, []api.Account{a}, i+1); len(l) != len(s.rights[i]) {
		k := s
		k.rights[i] = l
		out = append(out, k)
	}
	return out
}

// holds fails, if the scene's total is not what it is, or not within the bounds or
// a Bracket.
func (s scene) holds(t *testing.T) {
	now := s.was[len(s.was)-1]
	all := now.Base
	for _, h := range now.Holders {
		all += Net(s.rights[h.Node-1], 2, "k", h.Lease)
	}
	if all != s.total || all < now.Span.Lo || all > now.Span.Hi {
		t.Fatalf("%+v: with what was spent it is %d", s, all)
	}
	for i := range 2 {
		if from, to, e := Bracket(s.rights[i], 2, s.was[s.seen[i]], i+1); e == api.OK && (s.total < from || s.total > to) {
			t.Fatalf("%+v: Bracket of node %d: %d, %d", s, i+1, from, to)
		}
	}
}

// P16.6: each way that so many steps may take. The first ones are taken already:
// both nodes hold a part of the room, and see that.
func TestP16_6EachWay(t *testing.T) {
	a, _ := account.Grant(of(0, 8, 4), 1, 1, 2)
	b, _ := account.Grant(a, 2, 2, 2)
	first := scene{was: []api.Account{of(0, 8, 4), a, b}, seen: [2]int{2, 2}, total: 4}
	was := map[string]bool{first.key(): true}
	level := []scene{first}
	for range 9 {
		var next []scene
		for _, s := range level {
			for _, k := range s.next() {
				if key := k.key(); !was[key] {
					was[key] = true
					k.holds(t)
					next = append(next, k)
				}
			}
		}
		level = next
	}
	if len(was) < 20000 {
		t.Errorf("just %d scenes", len(was))
	}
	t.Logf("%d scenes", len(was))
}

// R2: what a call answers hangs on its arguments alone.
func TestR2Again(t *testing.T) {
	for seed := range 5000 {
		r := rand.New(rand.NewSource(int64(seed)))
		l, a := someLedger(r), someAccount(r)
		k := append(make([]api.Right, 0, 50), l...)
		b := a
		b.Holders = append(make([]api.Holder, 0, 50), a.Holders...)
		first := asked(t, rand.New(rand.NewSource(int64(seed))), l, a)
		asked(t, r, someLedger(r), someAccount(r))
		if second := asked(t, rand.New(rand.NewSource(int64(seed))), k, b); first != second || t.Failed() {
			t.Fatalf("seed %d: %s, and again %s", seed, first, second)
		}
	}
}
