package ledger

import (
	"fmt"
	"math"
	"math/big"
	"strings"
	"testing"

	"purse/account"
	"purse/api"
)

const (
	low = math.MinInt
	top = math.MaxInt
	// most is the greatest number that a lease or a round may begin with.
	most = 1 << 62
)

// edges are numbers at which sums, signs and limits turn.
var edges = []int{low, low + 1, -most - 1, -most, -1000, -2, -1, 0, 1, 2, 1000, most - 1, most, most + 1, top - 1, top}

// groups are numbers of groups that may be, 1 to 7, and that may not.
var groups = []int{low, -7, -1, 0, 1, 2, 3, 6, 7, 8, 9, 256 + 1, 1<<32 + 1, top}

// spent is the right of a lease of which net was spent.
func spent(group int, key string, lease, net int) api.Right {
	return api.Right{Group: group, Key: key, Lease: lease, Net: net}
}

// list is a list of rights.
func list(l ...api.Right) []api.Right { return l }

// text is rights as one line.
func text(l []api.Right) string {
	var out []string
	for _, r := range l {
		out = append(out, fmt.Sprintf("{%d %q %d: %d}", r.Group, r.Key, r.Lease, r.Net))
	}
	return strings.Join(out, " ")
}

// of is the account k with these bounds, this Base and these holders.
func of(lo, hi, base int, l ...api.Holder) api.Account {
	return api.Account{Key: "k", Span: api.Span{Lo: lo, Hi: hi}, Base: base, Holders: l}
}

// lends is what a node holds, by the lease of 10 times its number.
func lends(node, up, down int) api.Holder {
	return api.Holder{Node: node, Lease: 10 * node, Up: up, Down: down}
}

// named is a with that key.
func named(a api.Account, key string) api.Account {
	a.Key = key
	return a
}

// frozen is a in that round.
func frozen(a api.Account, round int) api.Account {
	a.Round = round
	return a
}

// locked is a with a lock that would not change it.
func locked(a api.Account) api.Account {
	a.Lock = api.Lock{Client: 3, Seq: 4, Home: 5}
	return a
}

// show is accounts as one line.
func show(l ...api.Account) string { return fmt.Sprintf("%q", fmt.Sprintf("%+v", l)) }

// ordinary is the account k, from 0 to 10, of which parts are lent to the nodes
// 1, 3 and 4.
func ordinary() api.Account {
	return of(0, 10, 4, lends(1, 2, 1), lends(3, 0, 0), lends(4, 1, 2))
}

// wrongs are accounts that are not right, each by another of their parts.
func wrongs() []api.Account {
	l := []api.Account{
		{}, of(0, 10, 11), of(0, 10, -1), of(10, 0, 4), frozen(ordinary(), -1), named(ordinary(), ""), named(ordinary(), strings.Repeat("k", 17)),
		of(0, 10, 4, lends(1, 7, 0)), of(0, 10, 4, lends(1, 0, 5)), of(0, 10, 4, lends(1, 4, 1), lends(2, 3, 1)), of(0, 10, 4, lends(1, 1, 3), lends(2, 1, 2)),
		of(0, 10, 4, lends(1, -1, 0)), of(0, 10, 4, lends(1, 0, -1)), of(0, 10, 4, lends(3, 1, 1), lends(1, 1, 1)), of(0, 10, 4, lends(1, 1, 1), lends(1, 1, 1)),
		of(0, 10, 4, lends(1, 1, 1), lends(6, 1, 1)), of(0, 10, 4, lends(0, 1, 1), lends(1, 1, 1)), of(0, 10, 4, api.Holder{Node: 1, Up: 1, Down: 1}),
		locked(ordinary()), of(low, top, 0, lends(1, top, 0), lends(2, 1, 0)), of(low, top, 0, lends(1, 0, top), lends(2, 0, 2)),
	}
	a := of(0, 10, 4)
	a.Lock.N = 1
	return append(l, a)
}

func wide(v int) *big.Int { return big.NewInt(int64(v)) }

// sum is the sum of all of l, without bounds.
func sum(l ...int) *big.Int {
	s := new(big.Int)
	for _, v := range l {
		s.Add(s, wide(v))
	}
	return s
}

// less is the sum of all of l, but the last, less that.
func less(l ...int) *big.Int {
	last := len(l) - 1
	return new(big.Int).Sub(sum(l[:last]...), wide(l[last]))
}

// plainMay asks of a right by itself what the chapter's section 'Words' asks.
func plainMay(r api.Right) bool {
	return r.Group >= 1 && r.Group <= 7 && len(r.Key) >= 1 && len(r.Key) <= 16 && r.Lease >= 1
}

// plainBelow holds two keys against each other byte by byte.
func plainBelow(a, b string) bool {
	for i := range min(len(a), len(b)) {
		if a[i] != b[i] {
			return a[i] < b[i]
		}
	}
	return len(a) < len(b)
}

// plainLedger asks each right, and each two of them that follow one another.
func plainLedger(l []api.Right) bool {
	for i, r := range l {
		if !plainMay(r) {
			return false
		}
		if i == 0 {
			continue
		}
		if p := l[i-1]; p.Group > r.Group || p.Group == r.Group && !plainBelow(p.Key, r.Key) {
			return false
		}
	}
	return true
}

// plainRight is chapter 15's word.
func plainRight(a api.Account) bool { return account.Check(a) == 0 }

// plainPut is l without the right of r's group and key, and r ahead of the first
// that is to stand behind it.
func plainPut(l []api.Right, r api.Right) ([]api.Right, api.Errno) {
	if !plainLedger(l) {
		return nil, 21
	}
	if !plainMay(r) {
		return nil, 1
	}
	var out []api.Right
	in := false
	for _, p := range l {
		if p.Group == r.Group && p.Key == r.Key {
			continue
		}
		if !in && (p.Group > r.Group || p.Group == r.Group && plainBelow(r.Key, p.Key)) {
			out, in = append(out, r), true
		}
		out = append(out, p)
	}
	if !in {
		out = append(out, r)
	}
	return out, 0
}

// plainNet looks at one right behind the other.
func plainNet(l []api.Right, group int, key string, lease int) int {
	for _, r := range l {
		if r.Group == group && r.Key == key && r.Lease == lease && plainLedger(l) {
			return r.Net
		}
	}
	return 0
}

// plainHolder is what the node holds of a.
func plainHolder(a api.Account, node int) (api.Holder, bool) {
	for _, h := range a.Holders {
		if h.Node == node {
			return h, true
		}
	}
	return api.Holder{}, false
}

// within tells whether v is not above h's Up, and not below 0 less its Down.
func within(h api.Holder, v *big.Int) bool {
	return v.Cmp(wide(h.Up)) <= 0 && v.Cmp(less(0, h.Down)) >= 0
}

func plainSpend(l []api.Right, group int, a api.Account, node, n int) (api.Right, api.Errno) {
	h, is := plainHolder(a, node)
	now := plainNet(l, group, a.Key, h.Lease)
	switch {
	case !plainLedger(l), !plainRight(a):
		return api.Right{}, 21
	case group < 1, group > 7, n == 0:
		return api.Right{}, 1
	case !is:
		return api.Right{}, 151
	case a.Round != 0:
		return api.Right{}, 152
	case !within(h, sum(now, n)):
		return api.Right{}, 150
	}
	return spent(group, a.Key, h.Lease, now+n), 0
}

func plainBracket(l []api.Right, group int, a api.Account, node int) (from, to *big.Int, e api.Errno) {
	h, is := plainHolder(a, node)
	now := plainNet(l, group, a.Key, h.Lease)
	switch {
	case !plainLedger(l), !plainRight(a):
		return wide(0), wide(0), 21
	case group < 1, group > 7:
		return wide(0), wide(0), 1
	case !is:
		return wide(0), wide(0), 151
	case a.Round != 0:
		return wide(0), wide(0), 152
	case !within(h, wide(now)):
		return wide(0), wide(0), 150
	}
	return sum(a.Span.Lo, h.Down, now), less(a.Span.Hi, now, h.Up), 0
}

func plainReport(l []api.Right, group int, a api.Account, node int) (api.Command, bool) {
	h, is := plainHolder(a, node)
	if !plainLedger(l) || !plainRight(a) || a.Round == 0 || !is || group < 1 || group > 7 {
		return api.Command{}, false
	}
	return api.Command{Kind: 2, Node: node, Key: a.Key, Lease: h.Lease, Round: a.Round, Net: plainNet(l, group, a.Key, h.Lease)}, true
}

func plainTrim(l []api.Right, group int, accounts []api.Account, node int) ([]api.Right, api.Errno) {
	if !plainLedger(l) {
		return nil, 21
	}
	for _, a := range accounts {
		if !plainRight(a) {
			return nil, 21
		}
	}
	var out []api.Right
	for _, r := range l {
		keep := r.Group != group
		for _, a := range accounts {
			for _, h := range a.Holders {
				keep = keep || a.Key == r.Key && h.Node == node && h.Lease == r.Lease
			}
		}
		if keep {
			out = append(out, r)
		}
	}
	return out, 0
}

// checks fails, if Check does not tell what the chapter's words tell.
func checks(t testing.TB, l []api.Right) bool {
	t.Helper()
	is := plainLedger(l)
	if e := Check(l); is && e != 0 || !is && e != 21 {
		t.Errorf("Check(%s): error %d; is it a ledger? %v", text(l), e, is)
	}
	return is
}

// nets fails, if Net does not tell what the chapter's words tell.
func nets(t testing.TB, l []api.Right, group int, key string, lease int) int {
	t.Helper()
	want := plainNet(l, group, key, lease)
	if n := Net(l, group, key, lease); n != want {
		t.Errorf("Net(%s, %d, %q, %d): %d; want %d", text(l), group, key, lease, n, want)
	}
	return want
}

// puts fails, if Put does not answer what the chapter's words make of l. It tells
// what that is.
func puts(t testing.TB, l []api.Right, r api.Right) ([]api.Right, api.Errno) {
	t.Helper()
	want, e := plainPut(l, r)
	got, f := Put(l, r)
	if f != e || text(got) != text(want) || e != 0 && got != nil || e == 0 && Check(got) != 0 {
		t.Errorf("Put(%s, %s): %s, error %d; want %s, error %d", text(l), text(list(r)), text(got), f, text(want), e)
	}
	return want, e
}

// spends fails, if Spend does not answer what the chapter's words make of it.
func spends(t testing.TB, l []api.Right, group int, a api.Account, node, n int) api.Errno {
	t.Helper()
	want, e := plainSpend(l, group, a, node, n)
	if got, f := Spend(l, group, a, node, n); f != e || got != want {
		t.Errorf("Spend(%s, %d, %s, %d, %d): %+v, error %d; want %+v, error %d", text(l), group, show(a), node, n, got, f, want, e)
	}
	return e
}

// brackets fails, if Bracket does not answer what the chapter's words make of it.
func brackets(t testing.TB, l []api.Right, group int, a api.Account, node int) api.Errno {
	t.Helper()
	from, to, e := plainBracket(l, group, a, node)
	if f, g, h := Bracket(l, group, a, node); h != e || wide(f).Cmp(from) != 0 || wide(g).Cmp(to) != 0 {
		t.Errorf("Bracket(%s, %d, %s, %d): %d, %d, error %d; want %d, %d, error %d", text(l), group, show(a), node, f, g, h, from, to, e)
	}
	return e
}

// reports fails, if Report does not answer what the chapter's words make of it.
func reports(t testing.TB, l []api.Right, group int, a api.Account, node int) bool {
	t.Helper()
	want, is := plainReport(l, group, a, node)
	if got, f := Report(l, group, a, node); f != is || fmt.Sprintf("%+v", got) != fmt.Sprintf("%+v", want) || got.Image != nil {
		t.Errorf("Report(%s, %d, %s, %d): %+v, %v; want %+v, %v", text(l), group, show(a), node, got, f, want, is)
	}
	return is
}

// trims fails, if Trim does not answer what the chapter's words make of l.
func trims(t testing.TB, l []api.Right, group int, accounts []api.Account, node int) ([]api.Right, api.Errno) {
	t.Helper()
	want, e := plainTrim(l, group, accounts, node)
	got, f := Trim(l, group, accounts, node)
	if f != e || text(got) != text(want) || e != 0 && got != nil || e == 0 && Check(got) != 0 {
		t.Errorf("Trim(%s, %d, %s, %d): %s, error %d; want %s, error %d", text(l), group, show(accounts...), node, text(got), f, text(want), e)
	}
	return want, e
}

// all asks of one ledger, one account and one node all that may be asked.
func all(t testing.TB, l []api.Right, group int, a api.Account, node, n int) {
	t.Helper()
	checks(t, l)
	spends(t, l, group, a, node, n)
	brackets(t, l, group, a, node)
	reports(t, l, group, a, node)
	trims(t, l, group, []api.Account{a}, node)
	h, _ := plainHolder(a, node)
	nets(t, l, group, a.Key, h.Lease)
	puts(t, l, spent(group, a.Key, h.Lease, n))
}
