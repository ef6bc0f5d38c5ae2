package session

import (
	"slices"
	"testing"

	"purse/api"
)

func TestExample(t *testing.T) {
	begins(t, nil, 3, 1, begun(3, 1))
	l, _, _ := Begin(nil, 3, 1)
	stays(t, l, 3, 1)
	same(t, end(l, 3, 1, api.Answer{Value: 7}), reply{marks: "{3:1 0/7/0/0}"}, "End")
	l, _ = End(l, 3, 1, api.Answer{Value: 7})
	stays(t, l, 3, 1)
	begins(t, l, 3, 2, begun(3, 2))
	l, _, _ = Begin(l, 3, 2)
	refuses(t, l, 3, 1, api.ErrOld)
	same(t, lose(l, 3, 2), reply{marks: "{3:1 80/0/0/0}"}, "Lose")
	l, _ = Lose(l, 3, 2)
	stays(t, l, 3, 1)
	begins(t, l, 3, 2, begun(3, 2))
}

// table fails, if Check tells otherwise; of what is no table all calls are
// ErrForm, whatever their arguments are, and Find finds nothing.
func table(t testing.TB, what string, l []api.Mark, is bool) {
	t.Helper()
	want := api.ErrForm
	if is {
		want = api.OK
	}
	if e := Check(l); e != want {
		t.Errorf("%s: Check(%s): error %d; want %d", what, text(l), e, want)
	}
	if is {
		joins(t, l, nil, l...)
		joins(t, nil, l, l...)
		for _, m := range l {
			if got, has := Find(l, m.Client); !has || got != m {
				t.Errorf("%s: Find(%s, %d): %v, %v", what, text(l), m.Client, got, has)
			}
		}
		return
	}
	none := reply{e: api.ErrForm}
	for _, client := range []int{low, -1, 0, 1, 2, 3, 8, 9, top} {
		if m, has := Find(l, client); has || m != (api.Mark{}) {
			t.Errorf("%s: Find(%s, %d): %v, %v", what, text(l), client, m, has)
		}
		for _, seq := range []int{low, -1, 0, 1, 2, 3, most, most + 1, top} {
			same(t, begin(l, client, seq), none, "%s: Begin(%s, %d, %d)", what, text(l), client, seq)
			same(t, end(l, client, seq, api.Answer{Value: 1}), none, "%s: End(%s, %d, %d)", what, text(l), client, seq)
			same(t, lose(l, client, seq), none, "%s: Lose(%s, %d, %d)", what, text(l), client, seq)
		}
	}
	for _, k := range [][]api.Mark{nil, {}, {begun(2, 5)}, {ended(1, 1, 1), begun(8, 9)}, {{}}, l} {
		same(t, join(l, k), none, "%s: Join(%s, %s)", what, text(l), text(k))
		same(t, join(k, l), none, "%s: Join(%s, %s)", what, text(k), text(l))
	}
}

// around tells of a mark by itself, ahead of others and behind others, that it
// may stand in a table, or not.
func around(t testing.TB, what string, m api.Mark, is bool) {
	t.Helper()
	table(t, what, list(m), is)
	table(t, what+", behind others", list(ended(1, 4, 4), begun(2, 2), m), is && m.Client > 2)
	table(t, what+", ahead of others", list(m, begun(7, 1), ended(8, 4, 4)), is && m.Client < 7)
	table(t, what+", between others", list(ended(2, 0, 4), m, begun(8, 1)), is && m.Client > 2 && m.Client < 8)
}

func TestP14_1Clients(t *testing.T) {
	for _, client := range []int{low, low + 1, -8, -1, 0, 1, 2, 3, 4, 5, 6, 7, 8, 9, 10, 11, 16, 256, 257, 1<<32 + 1, most, top} {
		is := client >= 1 && client <= 8
		around(t, "a client, open", begun(client, 1), is)
		around(t, "a client, ended", ended(client, 1, 5), is)
		around(t, "a client, Seq 0", ended(client, 0, 0), is)
	}
}

func TestP14_1Seqs(t *testing.T) {
	for _, seq := range []int{low, low + 1, -most, -2, -1, 0, 1, 2, 1 << 31, 1 << 32, most - 1, most, most + 1, top} {
		may := seq >= 0 && seq <= most
		around(t, "a Seq, ended", ended(5, seq, 0), may)
		around(t, "a Seq, ended with an answer", ended(5, seq, 9), may)
		around(t, "a Seq, lost", gone(5, seq), may)
		around(t, "a Seq, open", begun(5, seq), may && seq != 0)
	}
}

func TestP14_1Answers(t *testing.T) {
	for _, a := range answers() {
		for _, seq := range []int{0, 1, 7, most} {
			around(t, "an answer", api.Mark{Client: 4, Seq: seq, Answer: a}, true)
			around(t, "an answer of an open one", api.Mark{Client: 4, Seq: seq, Open: true, Answer: a}, seq > 0 && a == api.Answer{})
		}
	}
}

func TestP14_1Rising(t *testing.T) {
	for first := 0; first <= 9; first++ {
		for second := 0; second <= 9; second++ {
			is := first >= 1 && first < second && second <= 8
			table(t, "two", list(ended(first, 3, 1), ended(second, 3, 1)), is)
			table(t, "two, open", list(begun(first, 3), begun(second, 3)), is)
			for third := 0; third <= 9; third++ {
				table(t, "three", list(ended(first, 2, 1), begun(second, 9), ended(third, 1, 1)), is && second < third && third <= 8)
			}
		}
	}
	table(t, "two of one, by rising Seqs", list(ended(3, 1, 1), ended(3, 2, 1)), false)
	table(t, "two of one, by falling Seqs", list(ended(3, 2, 1), ended(3, 1, 1)), false)
	table(t, "two of one, ended and open", list(ended(3, 1, 1), begun(3, 2)), false)
	table(t, "two of one, apart", list(ended(3, 1, 1), ended(4, 1, 1), ended(3, 1, 1)), false)
	table(t, "they fall", list(ended(8, 1, 1), ended(7, 1, 1), ended(6, 1, 1)), false)
	table(t, "they fall at the end", list(ended(1, 1, 1), ended(7, 1, 1), ended(6, 1, 1)), false)
}

func TestP14_1Whole(t *testing.T) {
	table(t, "nil", nil, true)
	table(t, "empty", list(), true)
	for _, l := range subsets(func(client int) api.Mark { return ended(client, client, 1) }) {
		table(t, "a set of clients", l, true)
	}
	full := subsets(func(client int) api.Mark { return begun(client, most) })[255]
	table(t, "all clients", full, true)
	table(t, "all, and one more", append(slices.Clone(full), begun(9, 1)), false)
	for at := range full {
		table(t, "all, and one of them twice", append(slices.Clone(full), full[at]), false)
		table(t, "all, and one of them twice, at its place", slices.Insert(slices.Clone(full), at, full[at]), false)
		for other := range at {
			l := slices.Clone(full)
			l[at], l[other] = l[other], l[at]
			table(t, "all, two of them in each other's place", l, false)
		}
	}
	table(t, "a zero mark", make([]api.Mark, 1), false)
	table(t, "zero marks", make([]api.Mark, 8), false)
	if e := Check(make([]api.Mark, 100000)); e != api.ErrForm {
		t.Errorf("many zero marks: error %d", e)
	}
}

func TestP14_1Find(t *testing.T) {
	for _, of := range []func(int) api.Mark{
		func(client int) api.Mark { return begun(client, client+20) },
		func(client int) api.Mark { return ended(client, 0, 0) },
		func(client int) api.Mark {
			return api.Mark{Client: client, Seq: most, Answer: api.Answer{Err: 150, Value: client, Least: low, Most: top}}
		},
	} {
		for _, l := range append(subsets(of), list()) {
			for _, client := range []int{low, -1, 0, 1, 2, 3, 4, 5, 6, 7, 8, 9, 1<<32 + 1, top} {
				want, has := bookOf(l)[client]
				if got, is := Find(l, client); is != has || got != want {
					t.Errorf("Find(%s, %d): %v, %v; want %v, %v", text(l), client, got, is, want, has)
				}
			}
		}
	}
}

// tables is tables in which client 3 has no mark, and in which others have.
func tables() [][]api.Mark {
	return [][]api.Mark{nil, {}, {begun(1, 9)}, {ended(8, 2, 7)}, {begun(2, 1), gone(4, 0)}}
}

// and3 is l with the mark m of the client 3.
func and3(l []api.Mark, m api.Mark) []api.Mark {
	b := bookOf(l)
	b[3] = m
	return b.list()
}

func TestP14_2Arguments(t *testing.T) {
	marks := []api.Mark{begun(3, 5), ended(3, 5, 1), gone(3, 0), begun(3, 1), begun(3, most), ended(3, most, 2)}
	lists := tables()
	for _, l := range tables() {
		for _, m := range marks {
			lists = append(lists, and3(l, m))
		}
	}
	for _, l := range lists {
		for _, client := range []int{low, low + 3, -3, -1, 0, 9, 10, 11, 19, 256 + 3, 1<<32 + 3, top} {
			for _, seq := range []int{low, -1, 0, 1, 5, 6, most, most + 1, top} {
				refuses(t, l, client, seq, api.ErrArg)
			}
		}
		for client := 1; client <= 8; client++ {
			for _, seq := range []int{low, low + 1, -most, -5, -1, 0, most + 1, most + 2, top - 1, top} {
				refuses(t, l, client, seq, api.ErrArg)
			}
		}
	}
}

func TestP14_2New(t *testing.T) {
	for _, of := range []func(int) api.Mark{
		func(client int) api.Mark { return begun(client, client) },
		func(client int) api.Mark { return ended(client, most, client) },
	} {
		for _, l := range append(subsets(of), list()) {
			b := bookOf(l)
			for client := 1; client <= 8; client++ {
				if _, has := b[client]; has {
					continue
				}
				for _, seq := range []int{1, 2, 77, most - 1, most} {
					b[client] = begun(client, seq)
					begins(t, l, client, seq, b.list()...)
				}
				delete(b, client)
			}
		}
	}
}

// Of a client that has a mark: below its Seq, at it, and above.
func TestP14_2Mark(t *testing.T) {
	for _, seq := range []int{0, 1, 2, 3, 1 << 32, most - 2, most - 1, most} {
		marks := []api.Mark{ended(3, seq, 0), ended(3, seq, 4), gone(3, seq)}
		if seq > 0 {
			marks = append(marks, begun(3, seq))
		}
		for _, l := range tables() {
			for _, m := range marks {
				with := and3(l, m)
				for _, below := range []int{1, 2, seq / 2, seq - 2, seq - 1} {
					if below >= 1 && below < seq {
						refuses(t, with, 3, below, api.ErrOld)
					}
				}
				if seq > 0 {
					stays(t, with, 3, seq)
				}
				for _, above := range []int{seq + 1, seq + 2, seq + 1000, most - 1, most} {
					if above > seq && above <= most {
						begins(t, with, 3, above, and3(l, begun(3, above))...)
					}
				}
			}
		}
	}
}

// One client's numbers are not another's.
func TestP14_2Others(t *testing.T) {
	l := subsets(func(client int) api.Mark { return begun(client, 10*client) })[255]
	for client := 1; client <= 8; client++ {
		b := bookOf(l)
		b[client] = begun(client, 10*client+1)
		begins(t, l, client, 10*client+1, b.list()...)
		stays(t, l, client, 10*client)
		refuses(t, l, client, 10*client-1, api.ErrOld)
	}
}

func TestP14_3None(t *testing.T) {
	clients := []int{low, -1, 0, 1, 2, 3, 4, 8, 9, 256 + 3, 1<<32 + 3, top}
	seqs := []int{low, -1, 0, 1, 4, 5, 6, most, most + 1, top}
	for _, l := range tables() {
		for _, m := range []api.Mark{ended(3, 5, 1), ended(3, 0, 0), gone(3, 5), begun(3, 5)} {
			with := and3(l, m)
			b := bookOf(with)
			for _, client := range clients {
				for _, seq := range seqs {
					if was := b[client]; !was.Open || was.Seq != seq {
						lacks(t, with, client, seq)
					}
				}
			}
		}
		for _, seq := range seqs {
			lacks(t, l, 3, seq)
		}
	}
}

func TestP14_3Open(t *testing.T) {
	for _, seq := range []int{1, 2, 3, 1 << 32, most - 1, most} {
		for _, l := range tables() {
			with := and3(l, begun(3, seq))
			ends(t, with, 3, seq)
			for _, other := range []int{-seq, 0, 1, 2, seq - 1, seq + 1, most, top} {
				if other != seq {
					lacks(t, with, 3, other)
				}
			}
		}
	}
}

// Of all clients each ends by itself, at any place of the table.
func TestP14_3Each(t *testing.T) {
	for _, l := range subsets(func(client int) api.Mark { return begun(client, 7) }) {
		b := bookOf(l)
		for client := 1; client <= 8; client++ {
			if _, has := b[client]; has {
				ends(t, l, client, 7)
			} else {
				lacks(t, l, client, 7)
			}
		}
	}
}

// What has ended, or is lost, is not open any more, and may not end once more.
func TestP14_3Twice(t *testing.T) {
	for _, seq := range []int{1, 2, most} {
		l, _, _ := Begin(list(ended(2, 4, 4)), 3, seq)
		for _, a := range answers() {
			done, _ := End(l, 3, seq, a)
			lacks(t, done, 3, seq)
			lacks(t, done, 3, seq-1)
			stays(t, done, 3, seq)
			if seq > 1 {
				refuses(t, done, 3, seq-1, api.ErrOld)
			}
		}
		lost, _ := Lose(l, 3, seq)
		lacks(t, lost, 3, seq)
		lacks(t, lost, 3, seq-1)
		begins(t, lost, 3, seq, ended(2, 4, 4), begun(3, seq))
		if seq > 1 {
			stays(t, lost, 3, seq-1)
		}
	}
}

// A Lose of the first one leaves a mark of Seq 0, which is a table's.
func TestP14_3LoseTheFirst(t *testing.T) {
	same(t, lose(list(begun(6, 1)), 6, 1), reply{marks: "{6:0 80/0/0/0}"}, "Lose of Seq 1")
	l, _ := Lose(list(begun(6, 1)), 6, 1)
	table(t, "behind Lose", l, true)
	refuses(t, l, 6, 0, api.ErrArg)
	begins(t, l, 6, 1, begun(6, 1))
	begins(t, l, 6, 2, begun(6, 2))
	lacks(t, l, 6, 0)
	same(t, lose(list(begun(6, most)), 6, most), reply{marks: text(list(gone(6, most-1)))}, "Lose of the last one")
}

func TestP14_4Nothing(t *testing.T) {
	for _, l := range subsets(func(client int) api.Mark { return begun(client, client) }) {
		for _, none := range [][]api.Mark{nil, {}} {
			joins(t, l, none, l...)
			joins(t, none, l, l...)
		}
		joins(t, l, l, l...)
	}
}

// Clients in one alone stand by their order, those in both once.
func TestP14_4Clients(t *testing.T) {
	mine := subsets(func(client int) api.Mark { return ended(client, client, 1) })
	theirs := subsets(func(client int) api.Mark { return ended(client, 10-client, 2) })
	for _, l := range mine {
		for _, k := range theirs {
			b := bookOf(k)
			for _, m := range l {
				if n, both := b[m.Client]; !both || m.Seq >= n.Seq {
					b[m.Client] = m
				}
			}
			joins(t, l, k, b.list()...)
		}
	}
}

func TestP14_4One(t *testing.T) {
	wins := []struct {
		what         string
		l, k, joined api.Mark
	}{
		{"a greater Seq in the first, both ended", ended(3, 5, 1), ended(3, 4, 2), ended(3, 5, 1)},
		{"a greater Seq in the first, both open", begun(3, 5), begun(3, 4), begun(3, 5)},
		{"a greater Seq in the first, open", begun(3, 5), ended(3, 4, 2), begun(3, 5)},
		{"a greater Seq in the first, ended", ended(3, 5, 1), begun(3, 4), ended(3, 5, 1)},
		{"a greater Seq in the second, both ended", ended(3, 4, 1), ended(3, 5, 2), ended(3, 5, 2)},
		{"a greater Seq in the second, both open", begun(3, 4), begun(3, 5), begun(3, 5)},
		{"a greater Seq in the second, open", ended(3, 4, 1), begun(3, 5), begun(3, 5)},
		{"a greater Seq in the second, ended", begun(3, 4), ended(3, 5, 2), ended(3, 5, 2)},
		{"one Seq, ended in the first", ended(3, 5, 1), begun(3, 5), ended(3, 5, 1)},
		{"one Seq, ended in the second", begun(3, 5), ended(3, 5, 2), ended(3, 5, 2)},
		{"one Seq, ended in the first with nothing", ended(3, 5, 0), begun(3, 5), ended(3, 5, 0)},
		{"one Seq, ended in the second with nothing", begun(3, 5), ended(3, 5, 0), ended(3, 5, 0)},
		{"one Seq, both open", begun(3, 5), begun(3, 5), begun(3, 5)},
		{"one Seq, alike", ended(3, 5, 1), ended(3, 5, 1), ended(3, 5, 1)},
		{"one Seq, unlike answers, a greater one", ended(3, 5, 2), ended(3, 5, 1), ended(3, 5, 2)},
		{"one Seq, unlike answers, a lesser one", ended(3, 5, 1), ended(3, 5, 2), ended(3, 5, 1)},
		{"one Seq, the first with nothing", ended(3, 5, 0), ended(3, 5, 2), ended(3, 5, 0)},
		{"one Seq, lost in the first", gone(3, 5), ended(3, 5, 2), gone(3, 5)},
		{"one Seq, lost in the second", ended(3, 5, 1), gone(3, 5), ended(3, 5, 1)},
		{"lost and open", gone(3, 5), begun(3, 5), gone(3, 5)},
		{"lost and open, one more", gone(3, 4), begun(3, 5), begun(3, 5)},
		{"Seq 0", gone(3, 0), ended(3, 0, 1), gone(3, 0)},
		{"Seq 0 and 1", gone(3, 0), begun(3, 1), begun(3, 1)},
		{"Seq 1 and 0", begun(3, 1), gone(3, 0), begun(3, 1)},
		{"the ends of Seq", ended(3, 0, 1), begun(3, most), begun(3, most)},
		{"the ends of Seq, turned round", ended(3, most, 1), ended(3, 0, 2), ended(3, most, 1)},
	}
	for _, w := range wins {
		joins(t, list(w.l), list(w.k), w.joined)
		for _, l := range tables() {
			joins(t, and3(l, w.l), list(w.k), and3(l, w.joined)...)
			joins(t, list(w.l), and3(l, w.k), and3(l, w.joined)...)
		}
		if t.Failed() {
			t.Fatal(w.what)
		}
	}
}

// Of two ended marks of one Seq, a's stands whatever part of the answer differs.
func TestP14_4Answers(t *testing.T) {
	for _, a := range answers() {
		for _, b := range answers() {
			x, y := api.Mark{Client: 3, Seq: 5, Answer: a}, api.Mark{Client: 3, Seq: 5, Answer: b}
			joins(t, list(x), list(y), x)
		}
	}
}

// R5: what is no table stands ahead of all other errors.
func TestR5Order(t *testing.T) {
	bad := list(begun(3, 5), begun(3, 5))
	none := reply{e: api.ErrForm}
	for _, client := range []int{0, 3, 9} {
		for _, seq := range []int{0, 4, 5, 6, most + 1} {
			same(t, begin(bad, client, seq), none, "Begin(%s, %d, %d)", text(bad), client, seq)
			same(t, end(bad, client, seq, api.Answer{}), none, "End(%s, %d, %d)", text(bad), client, seq)
			same(t, lose(bad, client, seq), none, "Lose(%s, %d, %d)", text(bad), client, seq)
		}
	}
	good := list(ended(3, 5, 1))
	refuses(t, good, 3, 0, api.ErrArg)
	refuses(t, good, 3, 4, api.ErrOld)
	refuses(t, good, 0, 4, api.ErrArg)
}

// R4: beside an error there is nothing, not even an empty list that leads
// somewhere, and no true.
func TestR4NothingBesideErrors(t *testing.T) {
	good, bad := list(begun(3, 5)), list(api.Mark{})
	for _, l := range [][]api.Mark{good, bad} {
		if k, fresh, e := Begin(l, 3, 4); e == api.OK || k != nil || fresh {
			t.Errorf("Begin: %v, %v, error %d", k, fresh, e)
		}
		if k, fresh, e := Begin(l, 9, 4); e == api.OK || k != nil || fresh {
			t.Errorf("Begin: %v, %v, error %d", k, fresh, e)
		}
		if k, e := End(l, 3, 4, api.Answer{}); e == api.OK || k != nil {
			t.Errorf("End: %v, error %d", k, e)
		}
		if k, e := Lose(l, 3, 4); e == api.OK || k != nil {
			t.Errorf("Lose: %v, error %d", k, e)
		}
		if k, e := Join(l, bad); e == api.OK || k != nil {
			t.Errorf("Join: %v, error %d", k, e)
		}
		if k, e := Join(bad, l); e == api.OK || k != nil {
			t.Errorf("Join: %v, error %d", k, e)
		}
	}
}
