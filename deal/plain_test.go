package deal

import (
	"fmt"
	"math"
	"slices"
	"strings"
	"testing"

	"purse/api"
)

const (
	low = math.MinInt
	top = math.MaxInt
	// most is the greatest number of a client's transfer.
	most = 1 << 62
)

// edges are numbers at which signs and limits turn.
var edges = []int{low, low + 1, -most - 1, -most, -9, -8, -2, -1, 0, 1, 2, 3, 4, 7, 8, 9, 256 + 1, 1<<32 + 1, most - 1, most, most + 1, top - 1, top}

// small are lists of which few numbers are asked.
var small = []int{low, -1, 0, 1, 2, 3, 8, 9, most, most + 1, top}

// of is a deal of which nobody has said anything.
func of(client, seq int) api.Deal {
	return api.Deal{Client: client, Seq: seq, Key: "a", Other: "b", N: 5}
}

// put is a deal of that state.
func put(client, seq, mine, theirs, fate int) api.Deal {
	return api.Deal{Client: client, Seq: seq, Key: "a", Other: "b", N: 5, Mine: mine, Theirs: theirs, Fate: fate}
}

// state is the deal d with another state.
func state(d api.Deal, mine, theirs, fate int) api.Deal {
	d.Mine, d.Theirs, d.Fate = mine, theirs, fate
	return d
}

// list is a list of deals.
func list(l ...api.Deal) []api.Deal { return l }

// end is an end.
func end(client, seq int) api.End { return api.End{Client: client, Seq: seq} }

// ends is a list of ends.
func ends(l ...api.End) []api.End { return l }

// line is a deal as one line.
func line(d api.Deal) string {
	return fmt.Sprintf("{%d:%d %q>%q %d %d/%d %d}", d.Client, d.Seq, d.Key, d.Other, d.N, d.Mine, d.Theirs, d.Fate)
}

// text is deals as one line.
func text(l []api.Deal) string {
	var out []string
	for _, d := range l {
		out = append(out, line(d))
	}
	return strings.Join(out, " ")
}

// endText is ends as one line.
func endText(l []api.End) string {
	var out []string
	for _, n := range l {
		out = append(out, fmt.Sprintf("%d:%d", n.Client, n.Seq))
	}
	return strings.Join(out, " ")
}

// states are all states that a deal may be in: what each side has said, and the
// fate.
var states = [][3]int{{0, 0, 0}, {0, 0, 2}, {0, 1, 0}, {0, 1, 2}, {0, 2, 2}, {1, 0, 0}, {1, 0, 2}, {1, 1, 1}, {1, 2, 2}, {2, 0, 2}, {2, 1, 2}, {2, 2, 2}}

// ordinary are books of as many deals as there may be but one, in which there is
// room: an undecided deal, a committed one, an aborted one.
func ordinary() []api.Deal {
	return list(put(3, 7, 1, 0, 0), put(1, 7, 1, 1, 1), put(3, 2, 0, 0, 2))
}

// full are books of as many deals as there may be.
func full() []api.Deal {
	return list(of(2, 9), put(8, 1, 1, 0, 0), put(2, 8, 0, 1, 0), put(1, most, 2, 0, 2))
}

// A reply is all that a call of books answers.
type reply struct {
	deals string
	now   bool
	e     api.Errno
}

// plainDeal asks of one deal what the chapter's section 'Words' asks.
func plainDeal(d api.Deal) bool {
	switch {
	case d.Client < 1, d.Client > 8, d.Seq < 1, d.Seq > most, d.N < 1:
		return false
	case len(d.Key) < 1, len(d.Key) > 16, len(d.Other) < 1, len(d.Other) > 16, d.Key == d.Other:
		return false
	}
	return slices.Contains(states, [3]int{d.Mine, d.Theirs, d.Fate})
}

// plainBooks asks what the chapter's section 'Words' asks.
func plainBooks(l []api.Deal) bool {
	for i, d := range l {
		for _, o := range l[i+1:] {
			if d.Client == o.Client && d.Seq == o.Seq {
				return false
			}
		}
		if i >= 4 || !plainDeal(d) {
			return false
		}
	}
	return true
}

// plainFind looks at one deal behind the other.
func plainFind(l []api.Deal, client, seq int) (int, bool) {
	for i, d := range l {
		if d.Client == client && d.Seq == seq {
			return i, true
		}
	}
	return 0, false
}

func plainOpen(l []api.Deal, d api.Deal) reply {
	if !plainBooks(l) {
		return reply{e: 21}
	}
	if !plainDeal(d) || d.Mine != 0 || d.Theirs != 0 || d.Fate != 0 {
		return reply{e: 1}
	}
	if _, is := plainFind(l, d.Client, d.Seq); is {
		return reply{e: 171}
	}
	if len(l) == 4 {
		return reply{e: 3}
	}
	return reply{deals: strings.TrimSpace(text(l) + " " + line(d))}
}

// plainSay asks one thing of the chapter's words behind the other.
func plainSay(l []api.Deal, client, seq int, mine, yes bool) reply {
	at, is := plainFind(l, client, seq)
	switch {
	case !plainBooks(l):
		return reply{e: 21}
	case !is:
		return reply{e: 60}
	}
	d, said := l[at], 2
	if yes {
		said = 1
	}
	if d.Fate != 0 {
		return reply{deals: text(l)}
	}
	if mine && d.Mine == 0 {
		d.Mine = said
	}
	if !mine && d.Theirs == 0 {
		d.Theirs = said
	}
	if d.Mine == 1 && d.Theirs == 1 {
		d.Fate = 1
	}
	if d.Mine == 2 || d.Theirs == 2 {
		d.Fate = 2
	}
	return reply{deals: text(with(l, at, d)), now: d.Fate != 0}
}

func plainGive(l []api.Deal, client, seq int) reply {
	at, is := plainFind(l, client, seq)
	switch {
	case !plainBooks(l):
		return reply{e: 21}
	case !is:
		return reply{e: 60}
	case l[at].Fate != 0:
		return reply{deals: text(l)}
	}
	return reply{deals: text(with(l, at, state(l[at], l[at].Mine, l[at].Theirs, 2))), now: true}
}

func plainForget(l []api.Deal, client, seq int) reply {
	at, is := plainFind(l, client, seq)
	switch {
	case !plainBooks(l):
		return reply{e: 21}
	case !is || l[at].Fate == 0:
		return reply{e: 60}
	}
	var out []api.Deal
	for i, d := range l {
		if i != at {
			out = append(out, d)
		}
	}
	return reply{deals: text(out)}
}

// with is l with d in the place at.
func with(l []api.Deal, at int, d api.Deal) []api.Deal {
	c := append([]api.Deal(nil), l...)
	c[at] = d
	return c
}

// clean fails, if beside an error there is a list, or if what was made are no
// books.
func clean(t testing.TB, what string, l []api.Deal, e api.Errno) {
	t.Helper()
	if e != api.OK && l != nil || e == api.OK && Check(l) != api.OK {
		t.Errorf("%s: %s, error %d", what, text(l), e)
	}
}

// same fails, if a call did not answer that. It tells what is wanted.
func same(t testing.TB, what string, l []api.Deal, now bool, e api.Errno, want reply) reply {
	t.Helper()
	if got := (reply{text(l), now, e}); got != want {
		t.Errorf("%s: %+v; want %+v", what, got, want)
	}
	clean(t, what, l, e)
	return want
}

// checks fails, if Check does not tell what the chapter's words tell.
func checks(t testing.TB, l []api.Deal) bool {
	t.Helper()
	is := plainBooks(l)
	if e := Check(l); is && e != 0 || !is && e != 21 {
		t.Errorf("Check(%s): error %d; are they books? %v", text(l), e, is)
	}
	return is
}

// finds fails, if Find does not tell of the deal what the chapter's words tell.
func finds(t testing.TB, l []api.Deal, client, seq int) bool {
	t.Helper()
	want := api.Deal{}
	at, is := plainFind(l, client, seq)
	is = is && plainBooks(l)
	if is {
		want = l[at]
	}
	if d, has := Find(l, client, seq); has != is || d != want {
		t.Errorf("Find(%s, %d, %d): %s, %v; want %s, %v", text(l), client, seq, line(d), has, line(want), is)
	}
	return is
}

// opens fails, if Open does not answer what the chapter's words make of l.
func opens(t testing.TB, l []api.Deal, d api.Deal) reply {
	t.Helper()
	got, e := Open(l, d)
	return same(t, fmt.Sprintf("Open(%s, %s)", text(l), line(d)), got, false, e, plainOpen(l, d))
}

// says fails, if Say does not answer what the chapter's words make of l.
func says(t testing.TB, l []api.Deal, client, seq int, mine, yes bool) reply {
	t.Helper()
	got, now, e := Say(l, client, seq, mine, yes)
	return same(t, fmt.Sprintf("Say(%s, %d, %d, %v, %v)", text(l), client, seq, mine, yes), got, now, e, plainSay(l, client, seq, mine, yes))
}

// gives fails, if Give does not answer what the chapter's words make of l.
func gives(t testing.TB, l []api.Deal, client, seq int) reply {
	t.Helper()
	got, now, e := Give(l, client, seq)
	return same(t, fmt.Sprintf("Give(%s, %d, %d)", text(l), client, seq), got, now, e, plainGive(l, client, seq))
}

// forgets fails, if Forget does not answer what the chapter's words make of l.
func forgets(t testing.TB, l []api.Deal, client, seq int) reply {
	t.Helper()
	got, e := Forget(l, client, seq)
	return same(t, fmt.Sprintf("Forget(%s, %d, %d)", text(l), client, seq), got, false, e, plainForget(l, client, seq))
}

// touches asks all calls of that deal.
func touches(t testing.TB, l []api.Deal, client, seq int) {
	t.Helper()
	finds(t, l, client, seq)
	gives(t, l, client, seq)
	forgets(t, l, client, seq)
	opens(t, l, of(client, seq))
	for _, mine := range []bool{true, false} {
		says(t, l, client, seq, mine, true)
		says(t, l, client, seq, mine, false)
	}
}

// books fails, if the list l is books and is not to be, or the other way round. All
// calls are asked of it: of what are no books all are ErrForm.
func books(t testing.TB, what string, l []api.Deal, is bool) {
	t.Helper()
	if checks(t, l) != is {
		t.Errorf("%s: are %s books? %v", what, text(l), !is)
	}
	for _, d := range l {
		touches(t, l, d.Client, d.Seq)
	}
	touches(t, l, 5, 5)
	if is {
		return
	}
	touches(t, l, 0, top)
	touches(t, l, 9, 1)
}

// A high is ends as the chapter's words have them: the greatest Seq of each client
// that has one.
type high map[int]int

func highOf(l []api.End) high {
	h := high{}
	for _, n := range l {
		h[n.Client] = n.Seq
	}
	return h
}

// list tells the ends by rising clients.
func (h high) list() []api.End {
	var l []api.End
	for client := 1; client <= 8; client++ {
		if seq, is := h[client]; is {
			l = append(l, end(client, seq))
		}
	}
	return l
}

// raise puts in that Seq, where it is the greatest.
func (h high) raise(client, seq int) {
	if was, is := h[client]; !is || was < seq {
		h[client] = seq
	}
}

// plainEnds asks what the chapter's section 'Words' asks.
func plainEnds(l []api.End) bool {
	for i, n := range l {
		switch {
		case n.Client < 1, n.Client > 8, n.Seq < 1, n.Seq > most:
			return false
		case i > 0 && l[i-1].Client >= n.Client:
			return false
		}
	}
	return true
}

// checksEnds fails, if CheckEnds does not tell what the chapter's words tell.
func checksEnds(t testing.TB, l []api.End) bool {
	t.Helper()
	is := plainEnds(l)
	if e := CheckEnds(l); is && e != 0 || !is && e != 21 {
		t.Errorf("CheckEnds(%s): error %d; are they ends? %v", endText(l), e, is)
	}
	return is
}

// raises fails, if Raise does not answer what the chapter's words make of l. It
// tells what that is.
func raises(t testing.TB, l []api.End, client, seq int) ([]api.End, api.Errno) {
	t.Helper()
	var want []api.End
	e := api.OK
	switch {
	case !plainEnds(l):
		e = 21
	case client < 1, client > 8, seq < 1, seq > most:
		e = 1
	default:
		h := highOf(l)
		h.raise(client, seq)
		want = h.list()
	}
	got, f := Raise(l, client, seq)
	if f != e || endText(got) != endText(want) || e != api.OK && got != nil || e == api.OK && CheckEnds(got) != api.OK {
		t.Errorf("Raise(%s, %d, %d): %s, error %d; want %s, error %d", endText(l), client, seq, endText(got), f, endText(want), e)
	}
	return want, e
}

// pasts fails, if Past does not tell what the chapter's words tell.
func pasts(t testing.TB, l []api.End, client, seq int) bool {
	t.Helper()
	at, has := highOf(l)[client]
	want := has && at >= seq && plainEnds(l)
	if is := Past(l, client, seq); is != want {
		t.Errorf("Past(%s, %d, %d): %v; want %v", endText(l), client, seq, is, want)
	}
	return want
}

// joins fails, if Join does not answer what the chapter's words make of both. It
// tells what that is.
func joins(t testing.TB, a, b []api.End) ([]api.End, api.Errno) {
	t.Helper()
	var want []api.End
	e := api.OK
	if plainEnds(a) && plainEnds(b) {
		h := highOf(a)
		for _, n := range b {
			h.raise(n.Client, n.Seq)
		}
		want = h.list()
	} else {
		e = 21
	}
	got, f := Join(a, b)
	if f != e || endText(got) != endText(want) || e != api.OK && got != nil || e == api.OK && CheckEnds(got) != api.OK {
		t.Errorf("Join(%s, %s): %s, error %d; want %s, error %d", endText(a), endText(b), endText(got), f, endText(want), e)
	}
	return want, e
}

// endsOf fails, if the list l is ends and is not to be, or the other way round. All
// calls are asked of it: of what are no ends all are ErrForm.
func endsOf(t testing.TB, what string, l []api.End, is bool) {
	t.Helper()
	if checksEnds(t, l) != is {
		t.Errorf("%s: are %s ends? %v", what, endText(l), !is)
	}
	for _, client := range small {
		for _, seq := range []int{low, 0, 1, 5, most, most + 1} {
			raises(t, l, client, seq)
			pasts(t, l, client, seq)
		}
	}
	for _, n := range l {
		pasts(t, l, n.Client, n.Seq)
		raises(t, l, n.Client, n.Seq)
	}
	for _, other := range [][]api.End{nil, ends(), ends(end(2, 5)), ends(end(1, 1), end(8, most)), ends(end(0, 1)), l} {
		joins(t, l, other)
		joins(t, other, l)
	}
}
