package ledger

import (
	"testing"
	"unsafe"

	"purse/api"
)

// A room is lists with room behind their ends, in which there is more: a ledger,
// accounts, and the holders of the first of these.
type room struct {
	rights   []api.Right
	accounts []api.Account
	holders  []api.Holder
}

func rooms() room {
	holders := []api.Holder{lends(1, 2, 1), lends(3, 0, 0), lends(4, 1, 2), lends(5, 7, 7), lends(2, 9, 9)}
	accounts := []api.Account{of(0, 10, 4, holders[:3]...), named(ordinary(), "m"), named(ordinary(), "j"), {}, named(ordinary(), "a")}
	rights := []api.Right{spent(2, "a", 10, 1), spent(2, "k", 10, 1), spent(2, "m", 10, -1), spent(5, "k", 10, 2), spent(2, "z", 10, 3), spent(7, "k", 40, 4), {}}
	return room{rights, accounts, holders}
}

// ledger is the room's ledger; list its accounts.
func (r room) ledger() []api.Right { return r.rights[:4] }
func (r room) list() []api.Account { return r.accounts[:3] }

// show is all that lies in the room.
func (r room) show() string { return text(r.rights) + " " + show(r.accounts...) }

// spoil writes over all of it.
func (r room) spoil() {
	spoil(r.rights)
	for i := range r.holders {
		r.holders[i] = api.Holder{Node: -7, Lease: -7, Up: -7, Down: -7}
	}
	for i := range r.accounts {
		r.accounts[i] = api.Account{Key: "spoiled"}
	}
}

// spoil writes over all of l, and over the room behind its end.
func spoil(l []api.Right) {
	l = l[:cap(l)]
	for i := range l {
		l[i] = spent(-7, "spoiled", -7, -7)
	}
}

// A maker is a call that hands out a ledger made of that of a room, and what it
// makes.
type maker struct {
	want string
	call func(r room) []api.Right
}

func makers() []maker {
	put := func(p api.Right) func(r room) []api.Right {
		return func(r room) []api.Right { l, _ := Put(r.ledger(), p); return l }
	}
	trim := func(group, accounts, node int) func(r room) []api.Right {
		return func(r room) []api.Right { l, _ := Trim(r.ledger(), group, r.accounts[:accounts], node); return l }
	}
	return []maker{
		{`{1 "k" 1: 9} {2 "a" 10: 1} {2 "k" 10: 1} {2 "m" 10: -1} {5 "k" 10: 2}`, put(spent(1, "k", 1, 9))},
		{`{2 "a" 10: 1} {2 "b" 1: 9} {2 "k" 10: 1} {2 "m" 10: -1} {5 "k" 10: 2}`, put(spent(2, "b", 1, 9))},
		{`{2 "a" 10: 1} {2 "k" 10: 1} {2 "m" 10: -1} {5 "k" 10: 2} {5 "l" 1: 9}`, put(spent(5, "l", 1, 9))},
		{`{2 "a" 11: 9} {2 "k" 10: 1} {2 "m" 10: -1} {5 "k" 10: 2}`, put(spent(2, "a", 11, 9))},
		{`{2 "a" 10: 1} {2 "k" 10: 9} {2 "m" 10: -1} {5 "k" 10: 2}`, put(spent(2, "k", 10, 9))},
		{`{2 "a" 10: 1} {2 "k" 10: 1} {2 "m" 10: -1} {5 "k" 10: 9}`, put(spent(5, "k", 10, 9))},
		{`{2 "a" 10: 1} {2 "k" 10: 1} {2 "m" 10: -1} {5 "k" 10: 2}`, put(spent(2, "k", 10, 1))},
		{`{5 "k" 10: 2}`, trim(2, 0, 1)},
		{`{2 "k" 10: 1} {5 "k" 10: 2}`, trim(2, 1, 1)},
		{`{2 "k" 10: 1} {2 "m" 10: -1} {5 "k" 10: 2}`, trim(2, 3, 1)},
		{`{2 "a" 10: 1} {2 "k" 10: 1} {2 "m" 10: -1}`, trim(5, 0, 1)},
		{`{2 "a" 10: 1} {2 "k" 10: 1} {2 "m" 10: -1}`, trim(5, 3, 4)},
		// Nothing goes.
		{`{2 "a" 10: 1} {2 "k" 10: 1} {2 "m" 10: -1} {5 "k" 10: 2}`, trim(5, 1, 1)},
		{`{2 "a" 10: 1} {2 "k" 10: 1} {2 "m" 10: -1} {5 "k" 10: 2}`, trim(1, 2, 1)},
	}
}

// askers are calls that hand out no list; each asks all of the room, with
// arguments that may be, and that may not.
func askers() []func(r room) string {
	var l []func(r room) string
	for _, group := range []int{0, 2, 5, 8} {
		for node := range 6 {
			for _, round := range []int{0, 7} {
				l = append(l, func(r room) string {
					a := frozen(r.accounts[0], round)
					s, e := Spend(r.ledger(), group, a, node, 1)
					from, to, f := Bracket(r.ledger(), group, a, node)
					c, is := Report(r.ledger(), group, a, node)
					return text(list(s, spent(int(e), "", from, to), spent(int(f), c.Key, c.Net, c.Lease))) + map[bool]string{true: " told"}[is]
				})
			}
		}
	}
	return append(l, func(r room) string {
		nets := spent(int(Check(r.ledger())), "", Net(r.ledger(), 2, "k", 10), Net(r.ledger(), 5, "k", 10))
		return text(list(nets, spent(int(Check(r.rights)), "", Net(r.rights, 2, "k", 10), 0)))
	})
}

func TestR3HandedInIsNotChanged(t *testing.T) {
	was := rooms().show()
	for _, m := range makers() {
		r := rooms()
		if s := text(m.call(r)); s != m.want {
			t.Fatalf("%s; want %s", s, m.want)
		}
		if r.show() != was {
			t.Errorf("%s: what was handed in is %s", m.want, r.show())
		}
	}
	r := rooms()
	for i, ask := range askers() {
		if ask(r); r.show() != was {
			t.Fatalf("the call %d: what was handed in is %s", i, r.show())
		}
	}
}

func TestR3HandedInIsNotKept(t *testing.T) {
	for _, m := range makers() {
		r := rooms()
		got := m.call(r)
		r.spoil()
		if s := text(got); s != m.want {
			t.Errorf("%s, once what was handed in was changed; want %s", s, m.want)
		}
	}
	for i, ask := range askers() {
		r := rooms()
		want := ask(r)
		r.spoil()
		ask(r)
		if got := ask(rooms()); got != want {
			t.Errorf("the call %d: %s, and then %s", i, want, got)
		}
	}
}

func TestR3HandsOutNewMemory(t *testing.T) {
	was := rooms().show()
	for _, m := range makers() {
		r := rooms()
		first, second := m.call(r), m.call(r)
		spoil(first)
		if s := text(second); s != m.want {
			t.Errorf("%s: two answers share memory: %s", m.want, s)
		}
		if r.show() != was {
			t.Errorf("%s: what was told leads to what was handed in: %s", m.want, r.show())
		}
		if s := text(m.call(r)); s != m.want {
			t.Errorf("%s: what was told leads to what is kept: %s", m.want, s)
		}
	}
}

// A ledger of nothing that lies in a room leads to none of it.
func TestR3EmptyLeadsNowhere(t *testing.T) {
	for what, call := range map[string]func(r room) ([]api.Right, api.Errno){
		"Put into an empty one":   func(r room) ([]api.Right, api.Errno) { return Put(r.rights[:0], spent(1, "k", 1, 1)) },
		"Trim of an empty one":    func(r room) ([]api.Right, api.Errno) { return Trim(r.rights[:0], 2, nil, 1) },
		"Trim of an empty one, 2": func(r room) ([]api.Right, api.Errno) { return Trim(r.rights[:0], 2, r.list(), 1) },
		"Trim of all":             func(r room) ([]api.Right, api.Errno) { return Trim(r.rights[:2], 2, nil, 1) },
		"Trim of all, 2":          func(r room) ([]api.Right, api.Errno) { return Trim(r.rights[:1], 2, r.list(), 1) },
	} {
		r := rooms()
		was := r.show()
		got, e := call(r)
		if e != api.OK {
			t.Fatalf("%s: error %d", what, e)
		}
		if unsafe.SliceData(got) == unsafe.SliceData(r.rights) {
			t.Errorf("%s: the room is kept", what)
		}
		spoil(got)
		if got = append(got, spent(7, "z", 1, 1)); r.show() != was {
			t.Errorf("%s: the room is %s behind %s", what, r.show(), text(got))
		}
	}
}

// What a refused call was handed stays as it is, and beside an error no list is
// handed out.
func TestR4RefusedChangesNothing(t *testing.T) {
	r := rooms()
	was := r.show()
	for what, call := range map[string]func() ([]api.Right, api.Errno){
		"Put into none":          func() ([]api.Right, api.Errno) { return Put(r.rights, spent(2, "k", 10, 5)) },
		"Put of what may not be": func() ([]api.Right, api.Errno) { return Put(r.ledger(), spent(8, "k", 10, 5)) },
		"Put of nothing":         func() ([]api.Right, api.Errno) { return Put(r.ledger(), api.Right{}) },
		"Trim of none":           func() ([]api.Right, api.Errno) { return Trim(r.rights, 2, r.list(), 1) },
		"Trim by a wrong one":    func() ([]api.Right, api.Errno) { return Trim(r.ledger(), 2, r.accounts[:4], 1) },
		"Trim by more":           func() ([]api.Right, api.Errno) { return Trim(r.ledger(), 2, r.accounts, 1) },
	} {
		got, e := call()
		if e == api.OK || got != nil {
			t.Errorf("%s: %s, error %d", what, text(got), e)
		}
		if r.show() != was {
			t.Fatalf("%s: what was handed in is %s", what, r.show())
		}
	}
}

// To ask and to make others changes nothing: many may at once.
func TestReadByMany(t *testing.T) {
	r := rooms()
	wrong := make(chan int)
	for range 8 {
		go func() {
			n := 0
			for _, m := range makers() {
				if text(m.call(r)) != m.want {
					n++
				}
			}
			for _, ask := range askers() {
				if ask(r) != ask(rooms()) {
					n++
				}
			}
			wrong <- n
		}()
	}
	for range 8 {
		if n := <-wrong; n != 0 {
			t.Errorf("one of many: %d wrong", n)
		}
	}
}
