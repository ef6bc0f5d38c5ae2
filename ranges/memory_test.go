package ranges

import (
	"testing"

	"purse/api"
)

// room is a map of four places, with room behind its end, in which there is more.
func room() []api.Place {
	return append(ordinary(), put(5, "x", 7), put(6, "y", 8), api.Place{})
}

// of is the map of a room.
func of(r []api.Place) []api.Place { return r[:4] }

// spoil writes over all of l, and over the room behind its end.
func spoil(l []api.Place) {
	l = l[:cap(l)]
	for i := range l {
		l[i] = put(-7, "spoiled", -7)
	}
}

// gone is all that All tells, as places of which each has the next one's From.
func gone(l []api.Place) []api.Place {
	var out []api.Place
	for end, p := range All(l) {
		out = append(out, put(p.Group, end, p.Epoch))
	}
	return out
}

// A maker is a call that hands out places made of those of a room, and what it
// makes.
type maker struct {
	want string
	call func(r []api.Place) []api.Place
}

func makers() []maker {
	split := func(key string, group int) func(r []api.Place) []api.Place {
		return func(r []api.Place) []api.Place { l, _ := Split(of(r), key, group); return l }
	}
	merge := func(i int) func(r []api.Place) []api.Place {
		return func(r []api.Place) []api.Place { l, _ := Merge(of(r), i); return l }
	}
	return []maker{
		{`{3 "" 10} {4 "a" 10} {1 "d" 9} {7 "m" 4} {2 "t" 9}`, split("a", 4)},
		{`{3 "" 2} {1 "d" 10} {4 "e" 10} {7 "m" 4} {2 "t" 9}`, split("e", 4)},
		{`{3 "" 2} {1 "d" 9} {7 "m" 10} {4 "n" 10} {2 "t" 9}`, split("n", 4)},
		{`{3 "" 2} {1 "d" 9} {7 "m" 4} {2 "t" 10} {5 "x" 10}`, split("x", 5)},
		{`{3 "" 10} {7 "m" 4} {2 "t" 9}`, merge(0)},
		{`{3 "" 2} {1 "d" 10} {2 "t" 9}`, merge(1)},
		{`{3 "" 2} {1 "d" 9} {7 "m" 10}`, merge(2)},
		{`{3 "d" 2} {1 "m" 9} {7 "t" 4} {2 "" 9}`, func(r []api.Place) []api.Place { return gone(of(r)) }},
	}
}

// ask asks all that hands out no list, of the map in a room, and of the whole room,
// which is none.
func ask(r []api.Place) []api.Place {
	var out []api.Place
	for _, l := range [][]api.Place{of(r), r} {
		e := Check(l)
		for n := -1; n <= 8; n++ {
			at, is := Of(of(r), n)
			out = append(out, put(at, End(of(r), n), map[bool]int{true: 1}[is]))
			out = append(out, put(Find(of(r), string(rune('a'+3*n))), "", int(e)))
			ends(l, "m", n)
		}
	}
	return append(out, put(0, "", Epoch(of(r))))
}

func TestR3HandedInIsNotChanged(t *testing.T) {
	was := text(room())
	for _, m := range makers() {
		r := room()
		if s := text(m.call(r)); s != m.want {
			t.Fatalf("%s; want %s", s, m.want)
		}
		if text(r) != was {
			t.Errorf("%s: what was handed in is %s", m.want, text(r))
		}
	}
	r := room()
	if ask(r); text(r) != was {
		t.Errorf("what was handed in is %s", text(r))
	}
}

func TestR3HandedInIsNotKept(t *testing.T) {
	for _, m := range makers() {
		r := room()
		got := m.call(r)
		spoil(r)
		if s := text(got); s != m.want {
			t.Errorf("%s, once what was handed in was changed; want %s", s, m.want)
		}
		if s := text(m.call(room())); s != m.want {
			t.Errorf("%s, of another room; want %s", s, m.want)
		}
	}
	r := room()
	want := text(ask(r))
	spoil(r)
	ask(r)
	if got := text(ask(room())); got != want {
		t.Errorf("%s, and then %s", want, got)
	}
}

// What All tells stands from the call on, whatever becomes of what was handed in:
// ahead of the first place, between two, and behind the last one.
func TestR3AllStands(t *testing.T) {
	want := `{3 "d" 2} {1 "m" 9} {7 "t" 4} {2 "" 9}`
	for when := range 5 {
		r := room()
		all := All(of(r))
		if when == 0 {
			spoil(r)
		}
		for range 2 {
			var out []api.Place
			for end, p := range all {
				out = append(out, put(p.Group, end, p.Epoch))
				if len(out) == when {
					spoil(r)
				}
				p.Group, p.From = -1, "spoiled"
			}
			if s := text(out); s != want {
				t.Errorf("spoiled behind %d: %s", when, s)
			}
		}
	}
}

func TestR3HandsOutNewMemory(t *testing.T) {
	was := text(room())
	for _, m := range makers() {
		r := room()
		first, second := m.call(r), m.call(r)
		spoil(first)
		if s := text(second); s != m.want {
			t.Errorf("%s: two answers share memory: %s", m.want, s)
		}
		if text(r) != was {
			t.Errorf("%s: what was told leads to what was handed in: %s", m.want, text(r))
		}
		if s := text(m.call(r)); s != m.want {
			t.Errorf("%s: what was told leads to what is kept: %s", m.want, s)
		}
	}
}

// What a refused call was handed stays as it is, and beside an error no list is
// handed out.
func TestR4RefusedChangesNothing(t *testing.T) {
	r := room()
	was := text(r)
	late := aged(r, 2, most)
	for what, call := range map[string]func() ([]api.Place, api.Errno){
		"Split of no map":              func() ([]api.Place, api.Errno) { return Split(r, "a", 4) },
		"Split at no key":              func() ([]api.Place, api.Errno) { return Split(of(r), "", 4) },
		"Split for no group":           func() ([]api.Place, api.Errno) { return Split(of(r), "a", 8) },
		"Split at a From":              func() ([]api.Place, api.Errno) { return Split(of(r), "m", 4) },
		"Split for one that has keys":  func() ([]api.Place, api.Errno) { return Split(of(r), "a", 7) },
		"Split of the greatest Epoch":  func() ([]api.Place, api.Errno) { return Split(of(late), "a", 4) },
		"Merge of no map":              func() ([]api.Place, api.Errno) { return Merge(r, 1) },
		"Merge of the last place":      func() ([]api.Place, api.Errno) { return Merge(of(r), 3) },
		"Merge of no place":            func() ([]api.Place, api.Errno) { return Merge(of(r), -1) },
		"Merge of the greatest Epoch":  func() ([]api.Place, api.Errno) { return Merge(of(late), 0) },
		"Merge of a place of the room": func() ([]api.Place, api.Errno) { return Merge(of(r), 4) },
	} {
		got, e := call()
		if e == api.OK || got != nil {
			t.Errorf("%s: %s, error %d", what, text(got), e)
		}
		if text(r) != was || text(late) != text(aged(room(), 2, most)) {
			t.Fatalf("%s: what was handed in is %s", what, text(r))
		}
	}
}

// To ask and to make others changes nothing: many may at once.
func TestReadByMany(t *testing.T) {
	r := room()
	all, want := All(of(r)), text(ask(room()))
	wrong := make(chan int)
	for range 8 {
		go func() {
			n := 0
			for range 100 {
				for _, m := range makers() {
					if text(m.call(r)) != m.want {
						n++
					}
				}
				i := 0
				for _, p := range all {
					if p != r[i] {
						n++
					}
					i++
				}
				if text(ask(r)) != want {
					n++
				}
			}
			wrong <- n
		}()
	}
	for range 8 {
		if n := <-wrong; n != 0 {
			t.Errorf("one of many: %d wrong", n)
		}
	}
}
