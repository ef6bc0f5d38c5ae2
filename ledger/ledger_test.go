package ledger

import (
	"fmt"
	"slices"
	"strings"
	"testing"

	"purse/api"
)

// keys are keys of bytes of many kinds, each of the length n.
func keys(n int) []string {
	var l []string
	for _, s := range []string{"k", "\x00", "\xff", "ü", "界", "a\x00", "\n"} {
		l = append(l, strings.Repeat(s, n)[:n])
	}
	return l
}

// rising are keys, each below the next one, byte by byte.
var rising = []string{"\x00", "\x00\x00", "\x00\xff", "\x01", "10", "9", "A", "Z", "a", "a\x00", "aa", "ab", "abc", "abcdefghijklmno", "abcdefghijklmnop", "abcdefghijklmnoq", "b", "\x7f", "\x80", "é", "界", "\xff", "\xff\x00", "\xff\xff"}

// isLedger fails, if l is not a ledger as is says. If it is none, all calls say so
// first, whatever their other arguments are.
func isLedger(t *testing.T, what string, l []api.Right, is bool) {
	t.Helper()
	if checks(t, l) != is {
		t.Errorf("%s: the words have it that %s is a ledger: %v", what, text(l), !is)
	}
	for _, r := range append(slices.Clone(l), api.Right{}, spent(2, "k", 10, 1)) {
		nets(t, l, r.Group, r.Key, r.Lease)
		puts(t, l, r)
	}
	if is {
		return
	}
	for _, a := range []api.Account{ordinary(), frozen(ordinary(), 7), {}} {
		for _, group := range []int{0, 2, 8} {
			for _, node := range []int{0, 1, 2} {
				all(t, l, group, a, node, 0)
				all(t, l, group, a, node, 1)
				if e := spends(t, l, group, a, node, 1); e != api.ErrForm {
					t.Errorf("%s: Spend: error %d", what, e)
				}
				if e := brackets(t, l, group, a, node); e != api.ErrForm {
					t.Errorf("%s: Bracket: error %d", what, e)
				}
				if reports(t, l, group, a, node) {
					t.Errorf("%s: Report: true", what)
				}
			}
		}
	}
	if got, e := Trim(l, 2, nil, 1); e != api.ErrForm || got != nil {
		t.Errorf("%s: Trim: %s, error %d", what, text(got), e)
	}
	if got, e := Put(l, api.Right{}); e != api.ErrForm || got != nil {
		t.Errorf("%s: Put of no right: %s, error %d", what, text(got), e)
	}
}

func TestExample(t *testing.T) {
	a := of(0, 10, 4, api.Holder{Node: 1, Lease: 7, Up: 1, Down: 1})
	if from, to, e := Bracket(nil, 1, a, 1); from != 1 || to != 9 || e != api.OK {
		t.Errorf("Bracket: %d, %d, error %d", from, to, e)
	}
	r, e := Spend(nil, 1, a, 1, 1)
	if r != spent(1, "k", 7, 1) || e != api.OK {
		t.Errorf("Spend(1): %+v, error %d", r, e)
	}
	l, e := Put(nil, r)
	if text(l) != `{1 "k" 7: 1}` || e != api.OK {
		t.Errorf("Put: %s, error %d", text(l), e)
	}
	if r, e := Spend(l, 1, a, 1, 1); r != (api.Right{}) || e != api.ErrBound {
		t.Errorf("Spend(1) once more: %+v, error %d", r, e)
	}
	if r, e := Spend(l, 1, a, 1, -2); r != spent(1, "k", 7, -1) || e != api.OK {
		t.Errorf("Spend(-2): %+v, error %d", r, e)
	}
	if from, to, e := Bracket(l, 1, a, 1); from != 2 || to != 10 || e != api.OK {
		t.Errorf("Bracket: %d, %d, error %d", from, to, e)
	}
}

func TestP16_1Groups(t *testing.T) {
	for _, a := range groups {
		may := a >= 1 && a <= 7
		isLedger(t, "a group", list(spent(a, "k", 1, 0)), may)
		for _, b := range groups {
			both := may && b >= 1 && b <= 7
			isLedger(t, "one key in two groups", list(spent(a, "k", 1, 0), spent(b, "k", 1, 0)), both && a < b)
			isLedger(t, "one key in two groups, by two leases", list(spent(a, "k", 1, 0), spent(b, "k", 2, 5)), both && a < b)
			isLedger(t, "a key that falls", list(spent(a, "k", 1, 0), spent(b, "j", 1, 0)), both && a < b)
			isLedger(t, "a key that rises", list(spent(a, "j", 1, 0), spent(b, "k", 1, 0)), both && a <= b)
		}
	}
	var each []api.Right
	for group := 1; group <= 7; group++ {
		each = append(each, spent(group, "k", 3, group))
	}
	isLedger(t, "each group", each, true)
	isLedger(t, "each group, and one more", append(slices.Clone(each), spent(8, "k", 3, 0)), false)
	isLedger(t, "each group, and none", append(list(spent(0, "k", 3, 0)), each...), false)
	for i := range each {
		for j := range i {
			l := slices.Clone(each)
			l[i].Group, l[j].Group = l[j].Group, l[i].Group
			isLedger(t, "groups that fall", l, false)
		}
	}
}

func TestP16_1Keys(t *testing.T) {
	for _, n := range []int{0, 1, 2, 15, 16, 17, 18, 32, 256, 257, 272, 65537} {
		is := n >= 1 && n <= 16
		for _, key := range keys(n) {
			what := fmt.Sprintf("a key of %d bytes", n)
			isLedger(t, what, list(spent(1, key, 1, 0)), is)
			isLedger(t, what, list(spent(1, "z", 1, 0), spent(2, key, 1, 0)), is)
			isLedger(t, what, list(spent(1, key, 1, 0), spent(2, "a", 1, 0)), is)
		}
	}
	for i, a := range rising {
		for j, b := range rising {
			isLedger(t, "two keys of one group", list(spent(3, a, 5, 1), spent(3, b, 5, 1)), i < j)
			isLedger(t, "two keys of one group, by two leases", list(spent(3, a, 5, 1), spent(3, b, 6, 2)), i < j)
			isLedger(t, "two keys of two groups", list(spent(3, a, 5, 1), spent(4, b, 5, 1)), true)
			isLedger(t, "a key that falls behind others", list(spent(1, "z", 1, 1), spent(3, a, 5, 1), spent(3, b, 5, 1), spent(7, "a", 1, 1)), i < j)
		}
	}
}

func TestP16_1Leases(t *testing.T) {
	for _, lease := range edges {
		for at := range 3 {
			l := list(spent(1, "a", 1, 0), spent(1, "b", 1, 0), spent(2, "a", 1, 0))
			l[at].Lease = lease
			isLedger(t, "a lease", l, lease >= 1)
		}
		isLedger(t, "the lease of one", list(spent(1, "a", lease, 0)), lease >= 1)
		isLedger(t, "the lease of all", list(spent(1, "a", lease, 0), spent(1, "b", lease, 0), spent(2, "b", lease, 0)), lease >= 1)
	}
}

func TestP16_1Nets(t *testing.T) {
	for _, net := range edges {
		l := list(spent(1, "a", 1, net), spent(1, "b", top, -1), spent(2, "a", 1, net))
		isLedger(t, "a Net", l, true)
		isLedger(t, "a Net, and no right", list(spent(0, "a", 1, net)), false)
		if n := Net(l, 2, "a", 1); n != net {
			t.Errorf("Net: %d; want %d", n, net)
		}
	}
}

func TestP16_1None(t *testing.T) {
	isLedger(t, "nil", nil, true)
	isLedger(t, "empty", list(), true)
	isLedger(t, "a zero right", list(api.Right{}), false)
	isLedger(t, "many zero rights", make([]api.Right, 100), false)
	if e := Check(make([]api.Right, 1<<20)); e != api.ErrForm {
		t.Errorf("very many zero rights: error %d", e)
	}
}

// large is a ledger of so many keys in each group.
func large(count int) []api.Right {
	var l []api.Right
	for group := 1; group <= 7; group++ {
		for i := range count {
			l = append(l, spent(group, fmt.Sprintf("%06d", 2*i), group+i, group*i))
		}
	}
	return l
}

func TestP16_1Large(t *testing.T) {
	l := large(200)
	if e := Check(l); e != api.OK {
		t.Fatalf("Check: error %d", e)
	}
	for at, r := range l {
		if n := Net(l, r.Group, r.Key, r.Lease); n != r.Net {
			t.Fatalf("Net(%+v): %d", r, n)
		}
		k := slices.Insert(slices.Clone(l), at, r)
		if e := Check(k); e != api.ErrForm {
			t.Fatalf("the right %d twice: error %d", at, e)
		}
		if at > 0 {
			k = slices.Clone(l)
			k[at-1], k[at] = k[at], k[at-1]
			if e := Check(k); e != api.ErrForm {
				t.Fatalf("the rights %d and %d in each other's place: error %d", at-1, at, e)
			}
		}
	}
	for at := 0; at < len(l); at += 97 {
		r := l[at]
		r.Net--
		puts(t, l, r)
		r.Key += "1"
		puts(t, l, r)
		nets(t, l, r.Group, r.Key, r.Lease)
	}
}

func TestP16_1PutWhatMayNot(t *testing.T) {
	wrong := []api.Right{{}, spent(0, "k", 1, 0), spent(8, "k", 1, 0), spent(-1, "k", 1, 0), spent(low, "k", 1, 0), spent(top, "k", 1, 0), spent(2, "", 1, 0),
		spent(2, strings.Repeat("k", 17), 1, 0), spent(2, strings.Repeat("k", 1<<16), 1, 0), spent(2, "k", 0, 0), spent(2, "k", -1, 0), spent(2, "k", low, 0)}
	for _, l := range [][]api.Right{nil, {}, {spent(2, "k", 1, 5)}, {spent(1, "a", 1, 1), spent(7, "z", 1, 1)}} {
		for _, r := range wrong {
			if got, e := Put(l, r); e != api.ErrArg || got != nil {
				t.Errorf("Put(%s, %+v): %s, error %d", text(l), r, text(got), e)
			}
		}
		for _, r := range []api.Right{spent(1, "k", 1, 0), spent(7, "k", 1, low), spent(2, strings.Repeat("k", 16), 1, top), spent(2, "\x00", top, 0)} {
			if got, e := Put(l, r); e != api.OK || !slices.Contains(got, r) {
				t.Errorf("Put(%s, %+v): %s, error %d", text(l), r, text(got), e)
			}
		}
	}
	for _, r := range wrong {
		if got, e := Put(list(spent(2, "k", 1, 0), spent(2, "k", 2, 0)), r); e != api.ErrForm || got != nil {
			t.Errorf("Put of %+v into no ledger: %s, error %d", r, text(got), e)
		}
	}
}

func TestP16_1PutPlaces(t *testing.T) {
	l := list(spent(2, "b", 1, 10), spent(2, "d", 2, 20), spent(4, "b", 3, 30))
	rows := []struct {
		r    api.Right
		want string
	}{
		{spent(1, "z", 5, 9), `{1 "z" 5: 9} {2 "b" 1: 10} {2 "d" 2: 20} {4 "b" 3: 30}`},
		{spent(2, "a", 5, 9), `{2 "a" 5: 9} {2 "b" 1: 10} {2 "d" 2: 20} {4 "b" 3: 30}`},
		{spent(2, "b", 1, 9), `{2 "b" 1: 9} {2 "d" 2: 20} {4 "b" 3: 30}`},
		{spent(2, "b", 5, 9), `{2 "b" 5: 9} {2 "d" 2: 20} {4 "b" 3: 30}`},
		{spent(2, "b\x00", 1, 9), `{2 "b" 1: 10} {2 "b\x00" 1: 9} {2 "d" 2: 20} {4 "b" 3: 30}`},
		{spent(2, "c", 1, 9), `{2 "b" 1: 10} {2 "c" 1: 9} {2 "d" 2: 20} {4 "b" 3: 30}`},
		{spent(2, "d", 2, -9), `{2 "b" 1: 10} {2 "d" 2: -9} {4 "b" 3: 30}`},
		{spent(2, "d", 1, 0), `{2 "b" 1: 10} {2 "d" 1: 0} {4 "b" 3: 30}`},
		{spent(2, "e", 2, 9), `{2 "b" 1: 10} {2 "d" 2: 20} {2 "e" 2: 9} {4 "b" 3: 30}`},
		{spent(3, "b", 2, 9), `{2 "b" 1: 10} {2 "d" 2: 20} {3 "b" 2: 9} {4 "b" 3: 30}`},
		{spent(4, "a", 3, 9), `{2 "b" 1: 10} {2 "d" 2: 20} {4 "a" 3: 9} {4 "b" 3: 30}`},
		{spent(4, "b", 3, 9), `{2 "b" 1: 10} {2 "d" 2: 20} {4 "b" 3: 9}`},
		{spent(4, "b", top, low), `{2 "b" 1: 10} {2 "d" 2: 20} {4 "b" 9223372036854775807: -9223372036854775808}`},
		{spent(4, "c", 3, 9), `{2 "b" 1: 10} {2 "d" 2: 20} {4 "b" 3: 30} {4 "c" 3: 9}`},
		{spent(7, "a", 3, 9), `{2 "b" 1: 10} {2 "d" 2: 20} {4 "b" 3: 30} {7 "a" 3: 9}`},
	}
	for _, r := range rows {
		if got, e := Put(l, r.r); e != api.OK || text(got) != r.want {
			t.Errorf("Put(%+v): %s, error %d; want %s", r.r, text(got), e, r.want)
		}
		puts(t, l, r.r)
		for _, none := range [][]api.Right{nil, {}} {
			if got, e := Put(none, r.r); e != api.OK || text(got) != text(list(r.r)) {
				t.Errorf("Put(%+v) into an empty one: %s, error %d", r.r, text(got), e)
			}
		}
	}
}

// spots are rights of two groups and three keys.
func spots() []api.Right {
	var l []api.Right
	for _, group := range []int{2, 5} {
		for i, key := range []string{"a", "b", "ba"} {
			l = append(l, spent(group, key, group+i, 10*group+i))
		}
	}
	return l
}

// subsets is a ledger for each set of the spots.
func subsets() [][]api.Right {
	var out [][]api.Right
	for set := range 1 << 6 {
		var l []api.Right
		for i, r := range spots() {
			if set>>i&1 == 1 {
				l = append(l, r)
			}
		}
		out = append(out, l)
	}
	return out
}

func TestP16_1PutOfAll(t *testing.T) {
	for _, l := range subsets() {
		isLedger(t, "a set of rights", l, true)
		for _, r := range spots() {
			for lease := 1; lease <= 9; lease++ {
				if k, e := puts(t, l, spent(r.Group, r.Key, lease, -3)); e != api.OK || Net(k, r.Group, r.Key, lease) != -3 {
					t.Errorf("Put of %+v by lease %d: %s, error %d", r, lease, text(k), e)
				}
			}
		}
	}
}

// In whatever order they are put down, the rights are one ledger.
func TestP16_1PutInAnyOrder(t *testing.T) {
	want := text(spots())
	var each func(l, left []api.Right)
	each = func(l, left []api.Right) {
		if len(left) == 0 && text(l) != want {
			t.Errorf("%s", text(l))
		}
		for i, r := range left {
			k, _ := Put(l, r)
			each(k, slices.Delete(slices.Clone(left), i, i+1))
		}
	}
	each(nil, spots())
}

func TestP16_1Net(t *testing.T) {
	l := list(spent(2, "b", 1, 10), spent(2, "d", 2, -20), spent(4, "b", 3, 30))
	rows := []struct {
		group int
		key   string
		lease int
		net   int
	}{
		{2, "b", 1, 10}, {2, "d", 2, -20}, {4, "b", 3, 30},
		{2, "b", 2, 0}, {2, "b", 3, 0}, {2, "b", 0, 0}, {2, "b", -1, 0}, {2, "b", top, 0}, {4, "b", 1, 0}, {2, "d", 1, 0},
		{1, "b", 1, 0}, {3, "b", 1, 0}, {4, "d", 2, 0}, {0, "b", 1, 0}, {8, "b", 3, 0}, {-2, "b", 1, 0}, {1<<32 + 2, "b", 1, 0}, {top, "b", 1, 0}, {low, "b", 1, 0},
		{2, "", 1, 0}, {2, "a", 1, 0}, {2, "c", 1, 0}, {2, "c", 2, 0}, {2, "e", 2, 0}, {2, "b\x00", 1, 0}, {2, strings.Repeat("b", 17), 1, 0}, {2, "B", 1, 0},
	}
	for _, r := range rows {
		if n := Net(l, r.group, r.key, r.lease); n != r.net {
			t.Errorf("Net(%d, %q, %d): %d; want %d", r.group, r.key, r.lease, n, r.net)
		}
		if n := Net(nil, r.group, r.key, r.lease); n != 0 {
			t.Errorf("Net(%d, %q, %d) of none: %d", r.group, r.key, r.lease, n)
		}
	}
	for _, l := range subsets() {
		for _, r := range spots() {
			for lease := range 10 {
				nets(t, l, r.Group, r.Key, lease)
				nets(t, l, r.Group, r.Key+"a", lease)
				nets(t, l, r.Group+1, r.Key, lease)
			}
		}
	}
}

func TestP16_1NetOfNoLedger(t *testing.T) {
	ok := spent(2, "k", 1, 9)
	for _, l := range [][]api.Right{
		{ok, ok}, {ok, {}}, {ok, spent(1, "k", 1, 9)}, {spent(3, "k", 1, 9), ok}, {spent(2, "l", 1, 9), ok}, {ok, spent(8, "k", 1, 9)}, {spent(0, "k", 1, 9), ok},
		{ok, spent(3, "", 1, 9)}, {ok, spent(3, strings.Repeat("k", 17), 1, 9)}, {ok, spent(3, "k", 0, 9)}, {ok, spent(2, "k", 2, 9)}, {ok, spent(2, "j", 1, 9)},
	} {
		for _, r := range l {
			if n := Net(l, r.Group, r.Key, r.Lease); n != 0 {
				t.Errorf("Net of %+v in %s: %d", r, text(l), n)
			}
		}
	}
	// One that may not stand in a ledger, though it is the one that is asked for.
	for _, r := range []api.Right{spent(0, "k", 1, 9), spent(8, "k", 1, 9), spent(2, "", 1, 9), spent(2, strings.Repeat("k", 17), 1, 9), spent(2, "k", 0, 9), spent(2, "k", -1, 9)} {
		if n := Net(list(r), r.Group, r.Key, r.Lease); n != 0 {
			t.Errorf("Net of %+v: %d", r, n)
		}
	}
}
