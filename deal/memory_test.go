package deal

import (
	"fmt"
	"testing"
	"unsafe"

	"purse/api"
)

// room are books of three deals, with room behind their end, in which there is more.
func room() []api.Deal {
	return append(ordinary(), put(5, 5, 1, 2, 2), of(6, 6), api.Deal{})
}

// endRoom are ends of four clients, with room behind their end, in which there is
// more.
func endRoom() []api.End { return append(some(), end(8, 8), end(1, 1), api.End{}) }

// in are the books of a room.
func in(r []api.Deal) []api.Deal { return r[:3] }

// endsIn are the ends of a room.
func endsIn(r []api.End) []api.End { return r[:4] }

// spoil writes over all of l, and over the room behind its end.
func spoil(l []api.Deal) {
	l = l[:cap(l)]
	for i := range l {
		l[i] = api.Deal{Client: -7, Seq: -7, Key: "spoiled", Other: "spoiled", N: -7, Mine: -7, Theirs: -7, Fate: -7}
	}
}

// spoilEnds writes over all of l, and over the room behind its end.
func spoilEnds(l []api.End) {
	l = l[:cap(l)]
	for i := range l {
		l[i] = end(-7, -7)
	}
}

// A maker is a call that hands out books made of those of a room, and what it
// makes.
type maker struct {
	want string
	call func(r []api.Deal) []api.Deal
}

func makers() []maker {
	say := func(client, seq int, mine, yes bool) func(r []api.Deal) []api.Deal {
		return func(r []api.Deal) []api.Deal { l, _, _ := Say(in(r), client, seq, mine, yes); return l }
	}
	give := func(client, seq int) func(r []api.Deal) []api.Deal {
		return func(r []api.Deal) []api.Deal { l, _, _ := Give(in(r), client, seq); return l }
	}
	forget := func(client, seq int) func(r []api.Deal) []api.Deal {
		return func(r []api.Deal) []api.Deal { l, _ := Forget(in(r), client, seq); return l }
	}
	was := text(ordinary())
	return []maker{
		{was + ` {4:4 "a">"b" 5 0/0 0}`, func(r []api.Deal) []api.Deal { l, _ := Open(in(r), of(4, 4)); return l }},
		{`{4:4 "a">"b" 5 0/0 0}`, func(r []api.Deal) []api.Deal { l, _ := Open(r[:0], of(4, 4)); return l }},
		{`{3:7 "a">"b" 5 1/1 1} {1:7 "a">"b" 5 1/1 1} {3:2 "a">"b" 5 0/0 2}`, say(3, 7, false, true)},
		{`{3:7 "a">"b" 5 1/2 2} {1:7 "a">"b" 5 1/1 1} {3:2 "a">"b" 5 0/0 2}`, say(3, 7, false, false)},
		{was, say(3, 7, true, false)}, {was, say(3, 7, true, true)}, {was, say(1, 7, true, false)}, {was, say(3, 2, true, true)},
		{`{3:7 "a">"b" 5 1/0 2} {1:7 "a">"b" 5 1/1 1} {3:2 "a">"b" 5 0/0 2}`, give(3, 7)},
		{was, give(1, 7)}, {was, give(3, 2)},
		{`{3:7 "a">"b" 5 1/0 0} {3:2 "a">"b" 5 0/0 2}`, forget(1, 7)},
		{`{3:7 "a">"b" 5 1/0 0} {1:7 "a">"b" 5 1/1 1}`, forget(3, 2)},
	}
}

// An endMaker is a call that hands out ends made of those of a room, and what it
// makes.
type endMaker struct {
	want string
	call func(r []api.End) []api.End
}

func endMakers() []endMaker {
	raise := func(client, seq int) func(r []api.End) []api.End {
		return func(r []api.End) []api.End { l, _ := Raise(endsIn(r), client, seq); return l }
	}
	// Either way round.
	join := func(k ...api.End) func(r []api.End) []api.End {
		return func(r []api.End) []api.End { l, _ := Join(endsIn(r), k); return l }
	}
	joined := func(k ...api.End) func(r []api.End) []api.End {
		return func(r []api.End) []api.End { l, _ := Join(k, endsIn(r)); return l }
	}
	was := endText(some())
	return []endMaker{
		{"1:1 " + was, raise(1, 1)}, {was + " 8:2", raise(8, 2)}, {"2:5 3:1 4:1 5:4611686018427387904 7:9", raise(3, 1)},
		{"2:6 4:1 5:4611686018427387904 7:9", raise(2, 6)}, {was, raise(2, 4)}, {was, raise(2, 5)}, {"2:5 4:1 5:4611686018427387904 7:10", raise(7, 10)},
		{"1:1", func(r []api.End) []api.End { l, _ := Raise(r[:0], 1, 1); return l }},
		{was, join()}, {was, joined()}, {was, join(some()...)}, {was, joined(some()...)}, {was, join(end(2, 4))}, {was, joined(end(2, 4))},
		{"2:6 4:1 5:4611686018427387904 7:9", join(end(2, 6))}, {"2:6 4:1 5:4611686018427387904 7:9", joined(end(2, 6))},
		{was + " 8:2", join(end(8, 2))}, {was + " 8:2", joined(end(8, 2))}, {"1:1 " + was, join(end(1, 1))}, {"1:1 " + was, joined(end(1, 1))},
		{was, func(r []api.End) []api.End { l, _ := Join(endsIn(r), endsIn(r)); return l }},
		{was, func(r []api.End) []api.End { l, _ := Join(endsIn(r)[:2], endsIn(r)[2:]); return l }},
		{was, func(r []api.End) []api.End { l, _ := Join(endsIn(r)[2:], endsIn(r)[:2]); return l }},
	}
}

// ask asks all that hands out no list, of what is in the rooms, and of the rooms
// whole, which are none.
func ask(r []api.Deal, n []api.End) string {
	out := fmt.Sprint(Check(in(r)), Check(r), CheckEnds(endsIn(n)), CheckEnds(n))
	for _, seq := range []int{0, 1, 2, 5, 7, 9, most} {
		for client := range 9 {
			d, is := Find(in(r), client, seq)
			o, has := Find(r, client, seq)
			out += fmt.Sprint(line(d), is, line(o), has, Past(endsIn(n), client, seq), Past(n, client, seq))
		}
	}
	return out
}

func TestR3HandedInIsNotChanged(t *testing.T) {
	was, endsWere := text(room()), endText(endRoom())
	for _, m := range makers() {
		r := room()
		if s := text(m.call(r)); s != m.want {
			t.Fatalf("%s; want %s", s, m.want)
		}
		if text(r) != was {
			t.Errorf("%s: what was handed in is %s", m.want, text(r))
		}
	}
	for _, m := range endMakers() {
		r := endRoom()
		if s := endText(m.call(r)); s != m.want {
			t.Fatalf("%s; want %s", s, m.want)
		}
		if endText(r) != endsWere {
			t.Errorf("%s: what was handed in is %s", m.want, endText(r))
		}
	}
	r, n := room(), endRoom()
	if ask(r, n); text(r) != was || endText(n) != endsWere {
		t.Errorf("what was handed in is %s and %s", text(r), endText(n))
	}
}

func TestR3HandedInIsNotKept(t *testing.T) {
	for _, m := range makers() {
		r := room()
		got := m.call(r)
		spoil(r)
		if s := text(got); s != m.want {
			t.Errorf("%s, once what was handed in was changed; want %s", s, m.want)
		}
		if s := text(m.call(room())); s != m.want {
			t.Errorf("%s, of another room; want %s", s, m.want)
		}
	}
	for _, m := range endMakers() {
		r := endRoom()
		got := m.call(r)
		spoilEnds(r)
		if s := endText(got); s != m.want {
			t.Errorf("%s, once what was handed in was changed; want %s", s, m.want)
		}
		if s := endText(m.call(endRoom())); s != m.want {
			t.Errorf("%s, of another room; want %s", s, m.want)
		}
	}
	r, n := room(), endRoom()
	want := ask(r, n)
	spoil(r)
	spoilEnds(n)
	ask(r, n)
	if got := ask(room(), endRoom()); got != want {
		t.Errorf("%s, and then %s", want, got)
	}
}

func TestR3HandsOutNewMemory(t *testing.T) {
	was, endsWere := text(room()), endText(endRoom())
	for _, m := range makers() {
		r := room()
		first, second := m.call(r), m.call(r)
		spoil(first)
		if s := text(second); s != m.want {
			t.Errorf("%s: two answers share memory: %s", m.want, s)
		}
		if text(r) != was {
			t.Errorf("%s: what was told leads to what was handed in: %s", m.want, text(r))
		}
		if s := text(m.call(r)); s != m.want {
			t.Errorf("%s: what was told leads to what is kept: %s", m.want, s)
		}
	}
	for _, m := range endMakers() {
		r := endRoom()
		first, second := m.call(r), m.call(r)
		spoilEnds(first)
		if s := endText(second); s != m.want {
			t.Errorf("%s: two answers share memory: %s", m.want, s)
		}
		if endText(r) != endsWere {
			t.Errorf("%s: what was told leads to what was handed in: %s", m.want, endText(r))
		}
		if s := endText(m.call(r)); s != m.want {
			t.Errorf("%s: what was told leads to what is kept: %s", m.want, s)
		}
	}
}

// Both lists of a Join stay as they are, and neither is handed out.
func TestR3JoinOfTwoRooms(t *testing.T) {
	a, b := endRoom(), append(ends(end(1, 4), end(2, 9)), end(3, 3), end(4, 4))
	was, were, want := endText(a), endText(b), "1:4 2:9 4:1 5:4611686018427387904 7:9"
	first, e := Join(endsIn(a), b[:2])
	second, f := Join(b[:2], endsIn(a))
	if e != api.OK || f != api.OK || endText(first) != want || endText(second) != want {
		t.Fatalf("%s, error %d; %s, error %d", endText(first), e, endText(second), f)
	}
	spoilEnds(first)
	if endText(a) != was || endText(b) != were {
		t.Errorf("%s and %s", endText(a), endText(b))
	}
	spoilEnds(a)
	spoilEnds(b)
	if s := endText(second); s != want {
		t.Errorf("%s, once what was handed in was changed", s)
	}
}

// An empty list that lies in a room leads to none of it.
func TestR3EmptyLeadsNowhere(t *testing.T) {
	r := endRoom()
	none, was := r[:0], endText(r)
	for what, call := range map[string]func() []api.End{
		"Join with itself":      func() []api.End { k, _ := Join(none, none); return k },
		"Join with nil":         func() []api.End { k, _ := Join(none, nil); return k },
		"Join of nil":           func() []api.End { k, _ := Join(nil, none); return k },
		"Join with another one": func() []api.End { k, _ := Join(none, ends(end(1, 1))); return k },
		"Join of another one":   func() []api.End { k, _ := Join(ends(end(1, 1)), none); return k },
		"Raise":                 func() []api.End { k, _ := Raise(none, 1, 1); return k },
	} {
		got := call()
		if unsafe.SliceData(got) == unsafe.SliceData(none) {
			t.Errorf("%s: the room is kept", what)
		}
		spoilEnds(got)
		if got = append(got, end(1, 1)); endText(r) != was {
			t.Errorf("%s: the room is %s behind %s", what, endText(r), endText(got))
		}
	}
	b := append(list(put(1, 1, 1, 1, 1)), room()...)
	left, e := Forget(b[:1], 1, 1)
	was = text(b)
	if len(left) != 0 || e != api.OK {
		t.Fatalf("%s, error %d", text(left), e)
	}
	spoil(left)
	if left = append(left, of(1, 1)); text(b) != was {
		t.Errorf("the room is %s behind %s", text(b), text(left))
	}
}

// What a refused call was handed stays as it is, and beside an error no list is
// handed out.
func TestR4RefusedChangesNothing(t *testing.T) {
	r, n := room(), endRoom()
	was, endsWere := text(r), endText(n)
	said := func(l []api.Deal, client, seq int) func() ([]api.Deal, bool, api.Errno) {
		return func() ([]api.Deal, bool, api.Errno) { return Say(l, client, seq, false, false) }
	}
	given := func(l []api.Deal, client, seq int) func() ([]api.Deal, bool, api.Errno) {
		return func() ([]api.Deal, bool, api.Errno) { return Give(l, client, seq) }
	}
	forgot := func(l []api.Deal, client, seq int) func() ([]api.Deal, bool, api.Errno) {
		return func() ([]api.Deal, bool, api.Errno) { k, e := Forget(l, client, seq); return k, false, e }
	}
	opened := func(l []api.Deal, d api.Deal) func() ([]api.Deal, bool, api.Errno) {
		return func() ([]api.Deal, bool, api.Errno) { k, e := Open(l, d); return k, false, e }
	}
	for what, call := range map[string]func() ([]api.Deal, bool, api.Errno){
		"Open in no books": opened(r, of(4, 4)), "Open of nothing": opened(in(r), api.Deal{}), "Open of one that is there": opened(in(r), of(3, 7)), "Open of one too many": opened(r[:4], of(4, 4)),
		"Say in no books": said(r, 3, 7), "Say of no deal": said(in(r), 5, 5), "Say of no client": said(in(r), 0, 0),
		"Give in no books": given(r, 3, 7), "Give of no deal": given(in(r), 5, 5), "Give of no client": given(in(r), 0, 0),
		"Forget in no books": forgot(r, 1, 7), "Forget of no deal": forgot(in(r), 5, 5), "Forget of what is undecided": forgot(in(r), 3, 7),
	} {
		got, now, e := call()
		if e == api.OK || got != nil || now {
			t.Errorf("%s: %s, %v, error %d", what, text(got), now, e)
		}
		if text(r) != was {
			t.Fatalf("%s: what was handed in is %s", what, text(r))
		}
	}
	for what, call := range map[string]func() ([]api.End, api.Errno){
		"Raise of no ends":   func() ([]api.End, api.Errno) { return Raise(n, 2, 6) },
		"Raise of no client": func() ([]api.End, api.Errno) { return Raise(endsIn(n), 9, 6) },
		"Raise to no Seq":    func() ([]api.End, api.Errno) { return Raise(endsIn(n), 2, most+1) },
		"Join of no ends":    func() ([]api.End, api.Errno) { return Join(n, endsIn(n)) },
		"Join with no ends":  func() ([]api.End, api.Errno) { return Join(endsIn(n), n) },
	} {
		got, e := call()
		if e == api.OK || got != nil {
			t.Errorf("%s: %s, error %d", what, endText(got), e)
		}
		if endText(n) != endsWere {
			t.Fatalf("%s: what was handed in is %s", what, endText(n))
		}
	}
}

// To ask and to make others changes nothing: many may at once.
func TestReadByMany(t *testing.T) {
	r, n := room(), endRoom()
	want := ask(room(), endRoom())
	wrong := make(chan int)
	for range 8 {
		go func() {
			bad := 0
			for range 20 {
				for _, m := range makers() {
					if text(m.call(r)) != m.want {
						bad++
					}
				}
				for _, m := range endMakers() {
					if endText(m.call(n)) != m.want {
						bad++
					}
				}
				if ask(r, n) != want {
					bad++
				}
			}
			wrong <- bad
		}()
	}
	for range 8 {
		if bad := <-wrong; bad != 0 {
			t.Errorf("one of many: %d wrong", bad)
		}
	}
}
