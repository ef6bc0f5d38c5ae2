package session

import (
	"fmt"
	"math"
	"strings"
	"testing"

	"purse/api"
)

const (
	low = math.MinInt
	top = math.MaxInt
	// most is the greatest number of an operation.
	most = 1 << 62
)

// begun is the mark of an operation that is open.
func begun(client, seq int) api.Mark {
	return api.Mark{Client: client, Seq: seq, Open: true}
}

// ended is the mark of an operation that has ended with this value.
func ended(client, seq, value int) api.Mark {
	return api.Mark{Client: client, Seq: seq, Answer: api.Answer{Value: value}}
}

// gone is the mark that Lose leaves: the operation's answer is not known.
func gone(client, seq int) api.Mark {
	return api.Mark{Client: client, Seq: seq, Answer: api.Answer{Err: 80}}
}

// list is a list of marks.
func list(l ...api.Mark) []api.Mark { return l }

// text is marks as one line.
func text(l []api.Mark) string {
	var out []string
	for _, m := range l {
		s := fmt.Sprintf("%d:%d", m.Client, m.Seq)
		if m.Open {
			s += " open"
		}
		if m.Answer != (api.Answer{}) {
			s += fmt.Sprintf(" %d/%d/%d/%d", m.Answer.Err, m.Answer.Value, m.Answer.Least, m.Answer.Most)
		}
		out = append(out, "{"+s+"}")
	}
	return strings.Join(out, " ")
}

// answers is one wrong or right answer of each form: zero, one that is not in
// each of its parts, and in all.
func answers() []api.Answer {
	l := []api.Answer{{}, {Err: 80, Value: 1, Least: 2, Most: 3}}
	for _, n := range []int{low, -1, 1, 80, most, most + 1, top} {
		l = append(l, api.Answer{Err: api.Errno(n)}, api.Answer{Value: n}, api.Answer{Least: n}, api.Answer{Most: n})
	}
	return l
}

// subsets is a table for each set of the clients 1 to 8, with the mark that of
// makes for each.
func subsets(of func(client int) api.Mark) [][]api.Mark {
	var all [][]api.Mark
	for set := range 1 << 8 {
		var l []api.Mark
		for client := 1; client <= 8; client++ {
			if set>>(client-1)&1 == 1 {
				l = append(l, of(client))
			}
		}
		all = append(all, l)
	}
	return all
}

// A book is a table as the chapter's words have it: a mark for each client that
// has one.
type book map[int]api.Mark

func bookOf(l []api.Mark) book {
	b := book{}
	for _, m := range l {
		b[m.Client] = m
	}
	return b
}

// list tells the book's marks by rising clients.
func (b book) list() []api.Mark {
	var l []api.Mark
	for client := 1; client <= 8; client++ {
		if m, has := b[client]; has {
			l = append(l, m)
		}
	}
	return l
}

// plainCheck asks each mark, and each two of them.
func plainCheck(l []api.Mark) bool {
	for i, m := range l {
		switch {
		case m.Client < 1, m.Client > 8, m.Seq < 0, m.Seq > most:
			return false
		case m.Open && (m.Seq < 1 || m.Answer.Err != 0 || m.Answer.Value != 0 || m.Answer.Least != 0 || m.Answer.Most != 0):
			return false
		case i > 0 && l[i-1].Client >= m.Client:
			return false
		}
	}
	return true
}

// A reply is all that a call answers.
type reply struct {
	marks string
	fresh bool
	e     api.Errno
}

func plainBegin(l []api.Mark, client, seq int) reply {
	b := bookOf(l)
	m, has := b[client]
	switch {
	case !plainCheck(l):
		return reply{e: 21}
	case client < 1, client > 8, seq < 1, seq > most:
		return reply{e: 1}
	case has && m.Seq > seq:
		return reply{e: 80}
	case has && m.Seq == seq:
		return reply{marks: text(l)}
	}
	b[client] = begun(client, seq)
	return reply{marks: text(b.list()), fresh: true}
}

func plainEnd(l []api.Mark, client, seq int, a api.Answer) reply {
	b := bookOf(l)
	m, has := b[client]
	switch {
	case !plainCheck(l):
		return reply{e: 21}
	case !has, m.Seq != seq, !m.Open:
		return reply{e: 60}
	}
	b[client] = api.Mark{Client: client, Seq: seq, Answer: a}
	return reply{marks: text(b.list())}
}

func plainLose(l []api.Mark, client, seq int) reply {
	b := bookOf(l)
	m, has := b[client]
	switch {
	case !plainCheck(l):
		return reply{e: 21}
	case !has, m.Seq != seq, !m.Open:
		return reply{e: 60}
	}
	b[client] = gone(client, seq-1)
	return reply{marks: text(b.list())}
}

func plainJoin(l, k []api.Mark) reply {
	if !plainCheck(l) || !plainCheck(k) {
		return reply{e: 21}
	}
	b := bookOf(k)
	for client, m := range bookOf(l) {
		n, both := b[client]
		switch {
		case both && n.Seq > m.Seq:
		case both && n.Seq == m.Seq && !n.Open && m.Open:
		default:
			b[client] = m
		}
	}
	return reply{marks: text(b.list())}
}

// The calls, each by all that it answers; marks beside an error are told, too.

func begin(l []api.Mark, client, seq int) reply {
	k, fresh, e := Begin(l, client, seq)
	return reply{text(k), fresh, e}
}

func end(l []api.Mark, client, seq int, a api.Answer) reply {
	k, e := End(l, client, seq, a)
	return reply{marks: text(k), e: e}
}

func lose(l []api.Mark, client, seq int) reply {
	k, e := Lose(l, client, seq)
	return reply{marks: text(k), e: e}
}

func join(l, k []api.Mark) reply {
	j, e := Join(l, k)
	return reply{marks: text(j), e: e}
}

// same fails, if a call did not answer that.
func same(t testing.TB, got, want reply, what string, about ...any) {
	t.Helper()
	if got != want {
		t.Errorf("%s: %+v; want %+v", fmt.Sprintf(what, about...), got, want)
	}
}

// begins fails, if Begin does not make these marks.
func begins(t testing.TB, l []api.Mark, client, seq int, marks ...api.Mark) {
	t.Helper()
	same(t, begin(l, client, seq), reply{text(marks), true, 0}, "Begin(%s, %d, %d)", text(l), client, seq)
}

// stays fails, if Begin does not answer l as it is, and false.
func stays(t testing.TB, l []api.Mark, client, seq int) {
	t.Helper()
	same(t, begin(l, client, seq), reply{text(l), false, 0}, "Begin(%s, %d, %d)", text(l), client, seq)
}

// refuses fails, if Begin does not answer this error.
func refuses(t testing.TB, l []api.Mark, client, seq int, e api.Errno) {
	t.Helper()
	same(t, begin(l, client, seq), reply{e: e}, "Begin(%s, %d, %d)", text(l), client, seq)
}

// ends fails, if End and Lose do not make marks of l in which that client has
// ended, or lost, that operation.
func ends(t testing.TB, l []api.Mark, client, seq int) {
	t.Helper()
	for _, a := range answers() {
		b := bookOf(l)
		b[client] = api.Mark{Client: client, Seq: seq, Answer: a}
		same(t, end(l, client, seq, a), reply{marks: text(b.list())}, "End(%s, %d, %d, %v)", text(l), client, seq, a)
	}
	b := bookOf(l)
	b[client] = gone(client, seq-1)
	same(t, lose(l, client, seq), reply{marks: text(b.list())}, "Lose(%s, %d, %d)", text(l), client, seq)
}

// lacks fails, if End and Lose do not tell that there is no such operation.
func lacks(t testing.TB, l []api.Mark, client, seq int) {
	t.Helper()
	for _, a := range answers() {
		same(t, end(l, client, seq, a), reply{e: 60}, "End(%s, %d, %d, %v)", text(l), client, seq, a)
	}
	same(t, lose(l, client, seq), reply{e: 60}, "Lose(%s, %d, %d)", text(l), client, seq)
}

// joins fails, if Join does not make these marks.
func joins(t testing.TB, l, k []api.Mark, marks ...api.Mark) {
	t.Helper()
	same(t, join(l, k), reply{marks: text(marks)}, "Join(%s, %s)", text(l), text(k))
}
