package session

import (
	"testing"
	"unsafe"

	"purse/api"
)

// A table with room behind its end, in which there are more marks.
type roomy struct{ l, whole []api.Mark }

// rooms is a table with room behind its end: the clients 2, 4 and 6, of which 4
// is open.
func rooms() roomy {
	whole := []api.Mark{ended(2, 3, 1), begun(4, 5), ended(6, 7, 2), ended(7, 8, 3), begun(8, 9), ended(9, 9, 9)}
	return roomy{whole[:3], whole}
}

const roomText = "{2:3 0/1/0/0} {4:5 open} {6:7 0/2/0/0} {7:8 0/3/0/0} {8:9 open} {9:9 0/9/0/0}"

// spoil writes over all of l, and over the room behind its end.
func spoil(l []api.Mark) {
	l = l[:cap(l)]
	for i := range l {
		l[i] = api.Mark{Client: -7, Seq: -7, Open: true, Answer: api.Answer{Err: -7}}
	}
}

// changers are calls that hand out a table made of one, and what they make of
// rooms.
func changers() map[string]func(l []api.Mark) []api.Mark {
	begin := func(client, seq int) func(l []api.Mark) []api.Mark {
		return func(l []api.Mark) []api.Mark {
			k, _, _ := Begin(l, client, seq)
			return k
		}
	}
	joined := func(k []api.Mark, e api.Errno) []api.Mark { return k }
	return map[string]func(l []api.Mark) []api.Mark{
		"{1:1 open} {2:3 0/1/0/0} {4:5 open} {6:7 0/2/0/0}":    begin(1, 1),
		"{2:4 open} {4:5 open} {6:7 0/2/0/0}":                  begin(2, 4),
		"{2:3 0/1/0/0} {3:1 open} {4:5 open} {6:7 0/2/0/0}":    begin(3, 1),
		"{2:3 0/1/0/0} {4:6 open} {6:7 0/2/0/0}":               begin(4, 6),
		"{2:3 0/1/0/0} {4:5 open} {6:8 open}":                  begin(6, 8),
		"{2:3 0/1/0/0} {4:5 open} {6:7 0/2/0/0} {8:1 open}":    begin(8, 1),
		"{2:3 0/1/0/0} {4:5 0/0/1/2} {6:7 0/2/0/0}":            func(l []api.Mark) []api.Mark { return joined(End(l, 4, 5, api.Answer{Least: 1, Most: 2})) },
		"{2:3 0/1/0/0} {4:4 80/0/0/0} {6:7 0/2/0/0}":           func(l []api.Mark) []api.Mark { return joined(Lose(l, 4, 5)) },
		"{2:3 0/1/0/0} {4:5 0/8/0/0} {6:7 0/2/0/0}":            func(l []api.Mark) []api.Mark { return joined(Join(l, list(ended(4, 5, 8)))) },
		"{2:3 0/1/0/0} {4:5 0/7/0/0} {6:7 0/2/0/0}":            func(l []api.Mark) []api.Mark { return joined(Join(list(ended(4, 5, 7)), l)) },
		"{1:2 open} {2:3 0/1/0/0} {4:5 open} {6:7 0/2/0/0}":    func(l []api.Mark) []api.Mark { return joined(Join(l, list(begun(1, 2)))) },
		"{2:3 0/1/0/0} {4:5 open} {6:7 0/2/0/0} {7:4 0/1/0/0}": func(l []api.Mark) []api.Mark { return joined(Join(l, list(ended(7, 4, 1)))) },
		"{2:3 0/1/0/0} {4:5 open} {6:7 0/2/0/0} {8:4 0/1/0/0}": func(l []api.Mark) []api.Mark { return joined(Join(list(ended(8, 4, 1)), l)) },
	}
}

// keepers are calls that hand out a table as it is.
func keepers() map[string]func(l []api.Mark) []api.Mark {
	joined := func(k []api.Mark, e api.Errno) []api.Mark { return k }
	begun := func(k []api.Mark, fresh bool, e api.Errno) []api.Mark { return k }
	return map[string]func(l []api.Mark) []api.Mark{
		"Begin of what has ended":  func(l []api.Mark) []api.Mark { return begun(Begin(l, 2, 3)) },
		"Begin of what is open":    func(l []api.Mark) []api.Mark { return begun(Begin(l, 4, 5)) },
		"Join with itself":         func(l []api.Mark) []api.Mark { return joined(Join(l, l)) },
		"Join with nil":            func(l []api.Mark) []api.Mark { return joined(Join(l, nil)) },
		"Join of nil":              func(l []api.Mark) []api.Mark { return joined(Join(nil, l)) },
		"Join with an empty one":   func(l []api.Mark) []api.Mark { return joined(Join(l, list())) },
		"Join of an empty one":     func(l []api.Mark) []api.Mark { return joined(Join(list(), l)) },
		"Join with an older one":   func(l []api.Mark) []api.Mark { return joined(Join(l, list(ended(2, 2, 8)))) },
		"Join of an older one":     func(l []api.Mark) []api.Mark { return joined(Join(list(ended(2, 2, 8)), l)) },
		"Join with its first part": func(l []api.Mark) []api.Mark { return joined(Join(l, l[:1])) },
		"Join of its first part":   func(l []api.Mark) []api.Mark { return joined(Join(l[:1], l)) },
	}
}

// each goes through all calls, and what they are to answer of rooms.
func each(do func(what, want string, call func(l []api.Mark) []api.Mark)) {
	for want, call := range changers() {
		do(want, want, call)
	}
	for what, call := range keepers() {
		do(what, text(rooms().l), call)
	}
}

func TestR3HandedInIsNotChanged(t *testing.T) {
	each(func(what, want string, call func(l []api.Mark) []api.Mark) {
		r := rooms()
		if s := text(call(r.l)); s != want {
			t.Fatalf("%s: %s", what, s)
		}
		if s := text(r.whole); s != roomText {
			t.Errorf("%s: what was handed in is %s", what, s)
		}
	})
}

func TestR3HandedInIsNotKept(t *testing.T) {
	each(func(what, want string, call func(l []api.Mark) []api.Mark) {
		r := rooms()
		got := call(r.l)
		spoil(r.whole)
		if s := text(got); s != want {
			t.Errorf("%s: %s, once what was handed in was changed", what, s)
		}
	})
}

func TestR3HandsOutNewMemory(t *testing.T) {
	each(func(what, want string, call func(l []api.Mark) []api.Mark) {
		r := rooms()
		first, second := call(r.l), call(r.l)
		spoil(first)
		if s := text(second); s != want {
			t.Errorf("%s: two answers share memory: %s", what, s)
		}
		if s := text(r.whole); s != roomText {
			t.Errorf("%s: what was told leads to what was handed in: %s", what, s)
		}
		if s := text(call(r.l)); s != want {
			t.Errorf("%s: what was told leads to what is kept: %s", what, s)
		}
	})
}

// Both lists of a Join stay as they are, and neither is handed out.
func TestR3JoinOfTwoRooms(t *testing.T) {
	a, b := rooms(), rooms()
	got, e := Join(a.l, b.whole[3:5])
	if s := text(got); e != api.OK || s != "{2:3 0/1/0/0} {4:5 open} {6:7 0/2/0/0} {7:8 0/3/0/0} {8:9 open}" {
		t.Fatalf("%s, error %d", s, e)
	}
	again, _ := Join(b.whole[3:5], a.l)
	spoil(got)
	if text(a.whole) != roomText || text(b.whole) != roomText {
		t.Errorf("%s and %s", text(a.whole), text(b.whole))
	}
	spoil(a.whole)
	spoil(b.whole)
	if s := text(again); s != "{2:3 0/1/0/0} {4:5 open} {6:7 0/2/0/0} {7:8 0/3/0/0} {8:9 open}" {
		t.Errorf("%s, once what was handed in was changed", s)
	}
}

// An empty table that lies in a room leads to none of it.
func TestR3EmptyLeadsNowhere(t *testing.T) {
	r := rooms()
	none := r.whole[:0]
	for what, call := range map[string]func() []api.Mark{
		"Begin":                 func() []api.Mark { k, _, _ := Begin(none, 1, 1); return k },
		"Join with itself":      func() []api.Mark { k, _ := Join(none, none); return k },
		"Join with nil":         func() []api.Mark { k, _ := Join(none, nil); return k },
		"Join of nil":           func() []api.Mark { k, _ := Join(nil, none); return k },
		"Join with another one": func() []api.Mark { k, _ := Join(none, list(begun(1, 1))); return k },
	} {
		got := call()
		if unsafe.SliceData(got) == unsafe.SliceData(none) {
			t.Errorf("%s: the room is kept", what)
		}
		spoil(got)
		got = append(got, ended(1, 1, 1))
		if s := text(r.whole); s != roomText {
			t.Errorf("%s: the room is %s behind %s", what, s, text(got))
		}
	}
}

// What a refused call was handed stays as it is, too.
func TestR3RefusedChangesNothing(t *testing.T) {
	r := rooms()
	Begin(r.l, 2, 2)
	Begin(r.l, 9, 2)
	Begin(r.whole, 2, 9)
	End(r.l, 2, 3, api.Answer{Value: 1})
	End(r.l, 4, 4, api.Answer{Value: 1})
	End(r.whole, 4, 5, api.Answer{Value: 1})
	Lose(r.l, 4, 6)
	Lose(r.whole, 4, 5)
	Join(r.l, r.whole)
	Join(r.whole, r.l)
	Find(r.whole, 4)
	Check(r.whole)
	if s := text(r.whole); s != roomText {
		t.Errorf("%s", s)
	}
}

// To ask and to make others changes nothing: many may at once.
func TestReadByMany(t *testing.T) {
	r := rooms()
	lines := make(chan int)
	for range 8 {
		go func() {
			wrong := 0
			each(func(what, want string, call func(l []api.Mark) []api.Mark) {
				if text(call(r.l)) != want {
					wrong++
				}
			})
			lines <- wrong
		}()
	}
	for range 8 {
		if wrong := <-lines; wrong != 0 {
			t.Errorf("one of many: %d wrong", wrong)
		}
	}
}
