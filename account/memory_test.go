package account

import (
	"testing"
	"unsafe"

	"purse/api"
)

// rooms is an account whose holders lie at the beginning of a longer list, and
// that list.
func rooms() (api.Account, []api.Holder) {
	whole := []api.Holder{lends(1, 2, 1), lends(3, 0, 0), lends(4, 1, 2), lends(5, 7, 7), lends(2, 9, 9)}
	return of(-90, 90, 40, whole[:3]...), whole
}

// line is that list, as a line.
func line(whole []api.Holder) string { return text(of(0, 0, 0, whole...)) }

// spoil writes over all of l, and over the room behind its end.
func spoil(l []api.Holder) {
	l = l[:cap(l)]
	for i := range l {
		l[i] = api.Holder{Node: -7, Lease: -7, Up: -7, Down: -7}
	}
}

// A turn is a call of the account of rooms, once that has a round.
type turn struct {
	wish
	in int
}

// turns is calls that make an account with holders of that of rooms.
func turns() []turn {
	l := []turn{{report(1, 10, 7, 2), 7}, {report(3, 30, 7, 0), 7}, {report(4, 40, 7, -2), 7}}
	for _, w := range []wish{add(1), add(-30), freeze(9), thaw()} {
		l = append(l, turn{w, 0}, turn{w, 7})
	}
	for node := 1; node <= 5; node++ {
		l = append(l, turn{grant(node, 99, 5), 0})
	}
	return l
}

func TestR3HandedInIsNotChanged(t *testing.T) {
	for _, w := range turns() {
		a, whole := rooms()
		a.Round = w.in
		was, list := text(a), line(whole)
		does(t, a, w.wish)
		tells(t, a)
		if text(a) != was || line(whole) != list {
			t.Errorf("%+v: what was handed in is %s, %s", w, text(a), line(whole))
		}
	}
}

func TestR3HandedInIsNotKept(t *testing.T) {
	for _, w := range turns() {
		a, whole := rooms()
		a.Round = w.in
		want, _ := w.plain(a)
		got, e := w.ask(a)
		spoil(whole)
		if e != api.OK || text(got) != text(want) {
			t.Errorf("%+v: %s, once what was handed in was changed; want %s", w, text(got), text(want))
		}
	}
}

func TestR3HandsOutNewMemory(t *testing.T) {
	for _, w := range turns() {
		a, whole := rooms()
		a.Round = w.in
		want, _ := w.plain(a)
		list := line(whole)
		first, _ := w.ask(a)
		second, _ := w.ask(a)
		spoil(first.Holders)
		if text(second) != text(want) {
			t.Errorf("%+v: two answers share memory: %s", w, text(second))
		}
		if line(whole) != list {
			t.Errorf("%+v: what was told leads to what was handed in: %s", w, line(whole))
		}
		if third, _ := w.ask(a); text(third) != text(want) {
			t.Errorf("%+v: what was told leads to what is kept: %s", w, text(third))
		}
	}
}

// What a refused call was handed stays as it is, and beside an error no list is
// handed out.
func TestR4RefusedChangesNothing(t *testing.T) {
	for _, round := range []int{0, 7} {
		for _, base := range []int{40, 91} {
			for _, w := range wishes() {
				a, whole := rooms()
				a.Round, a.Base = round, base
				was, list := text(a), line(whole)
				if got, e := w.ask(a); e != api.OK && (text(got) != text(api.Account{}) || got.Holders != nil) {
					t.Errorf("%+v: %s beside error %d", w, text(got), e)
				}
				if text(a) != was || line(whole) != list {
					t.Errorf("%+v: what was handed in is %s, %s", w, text(a), line(whole))
				}
			}
		}
	}
}

// An account without holders leads nowhere, wherever its empty list lies.
func TestR3EmptyLeadsNowhere(t *testing.T) {
	for _, w := range []wish{add(1), freeze(7), thaw(), bounds(0, 99), take(lock(1)), free(true), grant(2, 20, 3), report(1, 10, 7, 1)} {
		_, whole := rooms()
		list := line(whole)
		a := of(-90, 90, 40, whole[:0]...)
		switch w.what {
		case "Free":
			a.Lock = lock(1)
		case "Report":
			a.Holders, a.Round = whole[:1], 7
		}
		got, e := w.ask(a)
		if e != api.OK {
			t.Fatalf("%+v: error %d", w, e)
		}
		if unsafe.SliceData(got.Holders) == unsafe.SliceData(whole) {
			t.Errorf("%+v: the list is kept", w)
		}
		spoil(got.Holders)
		if got.Holders = append(got.Holders, lends(5, 5, 5)); line(whole) != list {
			t.Errorf("%+v: the list is %s behind %s", w, line(whole), text(got))
		}
	}
}

// To ask and to make others changes nothing: many may at once.
func TestReadByMany(t *testing.T) {
	a, _ := rooms()
	a.Round = 7
	wrong := make(chan int)
	for range 8 {
		go func() {
			n := 0
			for _, w := range wishes() {
				want, e := w.plain(a)
				if got, f := w.ask(a); f != e || text(got) != text(want) {
					n++
				}
			}
			wrong <- n
		}()
	}
	for range 8 {
		if n := <-wrong; n != 0 {
			t.Errorf("one of many: %d wrong", n)
		}
	}
}
