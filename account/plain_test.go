package account

import (
	"fmt"
	"math"
	"math/big"
	"slices"
	"strings"
	"testing"

	"purse/api"
)

const (
	low = math.MinInt
	top = math.MaxInt
	// most is the greatest number that a lease or a round may begin with.
	most = 1 << 62
)

// edges are numbers at which sums, signs and limits turn.
var edges = []int{low, low + 1, -most - 1, -most, -1000, -2, -1, 0, 1, 2, 1000, most - 1, most, most + 1, top - 1, top}

// of is the account k with these bounds, this Base and these holders.
func of(lo, hi, base int, l ...api.Holder) api.Account {
	return api.Account{Key: "k", Span: api.Span{Lo: lo, Hi: hi}, Base: base, Holders: l}
}

// lends is what a node holds, by the lease of 10 times its number.
func lends(node, up, down int) api.Holder {
	return api.Holder{Node: node, Lease: 10 * node, Up: up, Down: down}
}

// frozen is a in that round.
func frozen(a api.Account, round int) api.Account {
	a.Round = round
	return a
}

// lock is a lock that would change an account by n.
func lock(n int) api.Lock { return api.Lock{Client: 3, Seq: 4, Home: 5, N: n} }

// locked is a with that lock.
func locked(a api.Account, l api.Lock) api.Account {
	a.Lock = l
	return a
}

// text is an account as one line.
func text(a api.Account) string {
	out := []string{fmt.Sprintf("%q [%d %d] %d", a.Key, a.Span.Lo, a.Span.Hi, a.Base)}
	if a.Round != 0 {
		out = append(out, fmt.Sprintf("round %d", a.Round))
	}
	for _, h := range a.Holders {
		out = append(out, fmt.Sprintf("{%d:%d +%d -%d}", h.Node, h.Lease, h.Up, h.Down))
	}
	if a.Lock != (api.Lock{}) {
		out = append(out, fmt.Sprintf("lock %d/%d/%d/%d", a.Lock.Client, a.Lock.Seq, a.Lock.Home, a.Lock.N))
	}
	return strings.Join(out, " ")
}

func wide(v int) *big.Int { return big.NewInt(int64(v)) }

// sum is the sum of all of l, without bounds.
func sum(l ...int) *big.Int {
	s := new(big.Int)
	for _, v := range l {
		s.Add(s, wide(v))
	}
	return s
}

// within tells whether the span has v.
func within(s api.Span, v *big.Int) bool {
	return wide(s.Lo).Cmp(v) <= 0 && v.Cmp(wide(s.Hi)) <= 0
}

// plainEnds is how low and how high a's total may be, as its holders spend.
func plainEnds(a api.Account) (low, high *big.Int) {
	low, high = wide(a.Base), wide(a.Base)
	for _, h := range a.Holders {
		low.Sub(low, wide(h.Down))
		high.Add(high, wide(h.Up))
	}
	return low, high
}

// plainRight asks what the chapter's section 'Words' asks.
func plainRight(a api.Account) bool {
	for i, h := range a.Holders {
		if h.Node < 1 || h.Node > 5 || h.Lease < 1 || h.Up < 0 || h.Down < 0 {
			return false
		}
		if i > 0 && a.Holders[i-1].Node >= h.Node {
			return false
		}
	}
	low, high := plainEnds(a)
	l := a.Lock
	switch {
	case len(a.Key) < 1, len(a.Key) > 16, a.Round < 0:
		return false
	case a.Base < a.Span.Lo, a.Base > a.Span.Hi:
		return false
	case high.Cmp(wide(a.Span.Hi)) > 0, low.Cmp(wide(a.Span.Lo)) < 0:
		return false
	case l.Client == 0:
		return l.Seq == 0 && l.Home == 0 && l.N == 0
	}
	return l.Client >= 1 && l.Seq >= 1 && l.Home >= 1 && l.Home <= 7 && len(a.Holders) == 0 && within(a.Span, sum(a.Base, l.N))
}

// plainRoom is how far a may fall, and rise; nothing, if it is not right.
func plainRoom(a api.Account) (fall, rise *big.Int) {
	if !plainRight(a) || a.Lock.Client != 0 {
		return wide(0), wide(0)
	}
	low, high := plainEnds(a)
	return low.Sub(low, wide(a.Span.Lo)), high.Sub(wide(a.Span.Hi), high)
}

// A wish is a call that makes another account of one, with its arguments.
type wish struct {
	what                         string
	node, lease, nodes, round, n int
	span                         api.Span
	lock                         api.Lock
	commit                       bool
}

func add(n int) wish { return wish{what: "Add", n: n} }
func grant(node, lease, nodes int) wish {
	return wish{what: "Grant", node: node, lease: lease, nodes: nodes}
}
func freeze(round int) wish { return wish{what: "Freeze", round: round} }
func thaw() wish            { return wish{what: "Thaw"} }
func report(node, lease, round, net int) wish {
	return wish{what: "Report", node: node, lease: lease, round: round, n: net}
}
func bounds(lo, hi int) wish { return wish{what: "Bounds", span: api.Span{Lo: lo, Hi: hi}} }
func take(l api.Lock) wish   { return wish{what: "Take", lock: l} }
func free(commit bool) wish  { return wish{what: "Free", commit: commit} }

// ask is what the package answers.
func (w wish) ask(a api.Account) (api.Account, api.Errno) {
	switch w.what {
	case "Add":
		return Add(a, w.n)
	case "Grant":
		return Grant(a, w.node, w.lease, w.nodes)
	case "Freeze":
		return Freeze(a, w.round)
	case "Thaw":
		return Thaw(a)
	case "Report":
		return Report(a, w.node, w.lease, w.round, w.n)
	case "Bounds":
		return Bounds(a, w.span)
	case "Take":
		return Take(a, w.lock)
	}
	return Free(a, w.commit)
}

// plain is what the chapter's words make of a.
func (w wish) plain(a api.Account) (api.Account, api.Errno) {
	if !plainRight(a) {
		return api.Account{}, 21
	}
	b := a
	b.Holders = append([]api.Holder{}, a.Holders...)
	e := map[string]func(b *api.Account) api.Errno{
		"Add": w.plainAdd, "Grant": w.plainGrant, "Freeze": w.plainFreeze, "Thaw": w.plainThaw,
		"Report": w.plainReport, "Bounds": w.plainBounds, "Take": w.plainTake, "Free": w.plainFree,
	}[w.what](&b)
	if e != 0 {
		return api.Account{}, e
	}
	return b, 0
}

func (w wish) plainAdd(b *api.Account) api.Errno {
	fall, rise := plainRoom(*b)
	switch n := wide(w.n); {
	case w.n == 0:
		return 1
	case b.Lock.Client != 0:
		return 152
	case n.Cmp(rise) > 0, n.Neg(n).Cmp(fall) > 0:
		return 150
	}
	b.Base = int(sum(b.Base, w.n).Int64())
	return 0
}

func (w wish) plainGrant(b *api.Account) api.Errno {
	switch {
	case w.nodes < 1, w.nodes > 5, w.node < 1, w.node > w.nodes, w.lease < 1, w.lease > most:
		return 1
	case b.Round != 0, b.Lock.Client != 0:
		return 152
	}
	fall, rise := plainRoom(*b)
	held := map[int]api.Holder{w.node: {Node: w.node, Lease: w.lease}}
	for _, h := range b.Holders {
		held[h.Node] = h
	}
	h := held[w.node]
	h.Up, h.Down = plainMore(h.Up, rise, w.nodes), plainMore(h.Down, fall, w.nodes)
	held[w.node] = h
	b.Holders = nil
	for node := 1; node <= 5; node++ {
		if h, is := held[node]; is {
			b.Holders = append(b.Holders, h)
		}
	}
	return 0
}

// plainMore is what is lent, and the last, which is the least, of nodes + 1 parts
// of the room; at most the greatest int.
func plainMore(lent int, room *big.Int, nodes int) int {
	part := new(big.Int).Quo(room, wide(nodes+1))
	if part.Cmp(wide(top)) > 0 {
		part = wide(top)
	}
	if part.Add(part, wide(lent)); part.Cmp(wide(top)) > 0 {
		return top
	}
	return int(part.Int64())
}

func (w wish) plainFreeze(b *api.Account) api.Errno {
	if w.round < 1 || w.round > most {
		return 1
	}
	if b.Round == 0 {
		b.Round = w.round
	}
	return 0
}

func (w wish) plainThaw(b *api.Account) api.Errno {
	b.Round = 0
	return 0
}

func (w wish) plainReport(b *api.Account) api.Errno {
	for at, h := range b.Holders {
		if h.Node != w.node || h.Lease != w.lease {
			continue
		}
		switch {
		case b.Round == 0, b.Round != w.round:
			return 152
		case w.n > h.Up, sum(w.n, h.Down).Sign() < 0:
			return 150
		}
		b.Base += w.n
		b.Holders = slices.Delete(b.Holders, at, at+1)
		return 0
	}
	return 151
}

func (w wish) plainBounds(b *api.Account) api.Errno {
	switch {
	case len(b.Holders) > 0, b.Lock.Client != 0:
		return 152
	case b.Base < w.span.Lo, b.Base > w.span.Hi:
		return 150
	}
	b.Span = w.span
	return 0
}

func (w wish) plainTake(b *api.Account) api.Errno {
	switch l := w.lock; {
	case l.Client < 1, l.Seq < 1, l.Home < 1, l.Home > 7:
		return 1
	case len(b.Holders) > 0, b.Lock.Client != 0:
		return 152
	case !within(b.Span, sum(b.Base, l.N)):
		return 150
	}
	b.Lock = w.lock
	return 0
}

func (w wish) plainFree(b *api.Account) api.Errno {
	if b.Lock.Client == 0 {
		return 60
	}
	if w.commit {
		b.Base += b.Lock.N
	}
	b.Lock = api.Lock{}
	return 0
}

// makes fails, if a call does not make that account of a.
func makes(t testing.TB, a api.Account, w wish, want api.Account) {
	t.Helper()
	got, e := w.ask(a)
	if e != api.OK || text(got) != text(want) {
		t.Errorf("%+v of %s: %s, error %d; want %s", w, text(a), text(got), e, text(want))
	}
	if e := Check(got); e != api.OK {
		t.Errorf("%+v of %s: %s, which is not right: error %d", w, text(a), text(got), e)
	}
}

// refuses fails, if a call does not answer that error, and nothing else.
func refuses(t testing.TB, a api.Account, w wish, e api.Errno) {
	t.Helper()
	got, f := w.ask(a)
	if f != e || text(got) != text(api.Account{}) || got.Holders != nil {
		t.Errorf("%+v of %s: %s, error %d; want error %d", w, text(a), text(got), f, e)
	}
}

// does fails, if a call does not answer what the chapter's words make of a. It
// tells which error that is.
func does(t testing.TB, a api.Account, w wish) api.Errno {
	t.Helper()
	want, e := w.plain(a)
	if e == api.OK {
		makes(t, a, w, want)
	} else {
		refuses(t, a, w, e)
	}
	return e
}

// tells fails, if a call that only asks tells otherwise of a than the chapter's
// words.
func tells(t testing.TB, a api.Account) {
	t.Helper()
	is, line := plainRight(a), text(a)
	if e := Check(a); (e == api.OK) != is || e != api.OK && e != api.ErrForm {
		t.Errorf("Check(%s): error %d; is it right? %v", line, e, is)
	}
	fall, rise := plainRoom(a)
	if f, r := Room(a); fall.Cmp(new(big.Int).SetUint64(f)) != 0 || rise.Cmp(new(big.Int).SetUint64(r)) != 0 {
		t.Errorf("Room(%s): %d, %d; want %d, %d", line, f, r, fall, rise)
	}
	known, base := is && len(a.Holders) == 0 && a.Lock.Client == 0, 0
	if known {
		base = a.Base
	}
	if v, is := Total(a); is != known || v != base {
		t.Errorf("Total(%s): %d, %v; want %d, %v", line, v, is, base, known)
	}
	held := map[int]api.Holder{}
	for _, h := range a.Holders {
		if is {
			held[h.Node] = h
		}
	}
	for _, node := range []int{low, -1, 0, 1, 2, 3, 4, 5, 6, 1<<32 + 1, top} {
		want, has := held[node]
		if h, is := Find(a, node); is != has || h != want {
			t.Errorf("Find(%s, %d): %v, %v; want %v, %v", line, node, h, is, want, has)
		}
	}
	if got, want := Plain(a), is && line == fmt.Sprintf("%q [0 0] 0", a.Key); got != want {
		t.Errorf("Plain(%s): %v", line, got)
	}
}
