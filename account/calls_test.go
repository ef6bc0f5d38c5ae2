package account

import (
	"math"
	"slices"
	"testing"

	"purse/api"
)

// kinds is right accounts of each kind, at ordinary bounds: plain, set, lent,
// frozen and locked ones.
func kinds() []api.Account {
	l := []api.Account{of(0, 0, 0), of(0, 10, 0), of(0, 10, 4), of(0, 10, 10), of(-7, -3, -5), of(-4, 9, 0), of(0, 0, 0, lends(2, 0, 0))}
	for _, h := range somebody() {
		l = append(l, of(-90, 90, 40, h...))
	}
	l = append(l, of(0, 10, 4, lends(3, 6, 4)), of(0, 10, 4, lends(1, 2, 1), lends(2, 0, 0), lends(3, 1, 3)))
	for _, a := range slices.Clone(l) {
		l = append(l, frozen(a, 1), frozen(a, 7), frozen(a, most), frozen(a, top))
	}
	for _, n := range []int{-4, -1, 0, 1, 6} {
		l = append(l, locked(of(0, 10, 4), lock(n)), frozen(locked(of(0, 10, 4), lock(n)), 7))
	}
	return append(l, locked(of(0, 0, 0), lock(0)), locked(of(0, 10, 4), api.Lock{Client: 1, Seq: 1, Home: 1}), locked(of(0, 10, 4), api.Lock{Client: top, Seq: top, Home: 7}))
}

func TestP15_2Room(t *testing.T) {
	room(t, of(0, 0, 0), 0, 0)
	room(t, of(0, 10, 0), 0, 10)
	room(t, of(0, 10, 10), 10, 0)
	room(t, of(-9, -3, -5), 4, 2)
	room(t, of(0, 10, 4, lends(1, 0, 0)), 4, 6)
	room(t, of(0, 10, 4, lends(1, 2, 1), lends(4, 1, 2)), 1, 3)
	room(t, of(0, 10, 4, lends(1, 6, 4)), 0, 0)
	room(t, frozen(of(0, 10, 4, lends(1, 2, 1)), 9), 3, 4)
	room(t, frozen(of(0, 10, 4), 9), 4, 6)
	room(t, locked(of(0, 10, 4), lock(1)), 0, 0)
	room(t, locked(of(0, 10, 4), lock(0)), 0, 0)
	room(t, frozen(locked(of(low, top, 4), lock(0)), 1), 0, 0)
	room(t, of(10, 0, 4), 0, 0)
}

func TestP15_2RoomOfAllInts(t *testing.T) {
	room(t, of(low, top, low), 0, math.MaxUint64)
	room(t, of(low, top, top), math.MaxUint64, 0)
	room(t, of(low, top, 0), 1<<63, 1<<63-1)
	room(t, of(low, top, -1), 1<<63-1, 1<<63)
	room(t, of(0, top, 0), 0, 1<<63-1)
	room(t, of(-1, top, -1), 0, 1<<63)
	room(t, of(low, 1, 1), 1<<63+1, 0)
	room(t, of(low, top, low, lends(1, top, 0)), 0, 1<<63)
	room(t, of(low, top, low, lends(1, top, 0), lends(2, top, 0)), 0, 1)
	room(t, of(low, top, low, lends(1, top, 0), lends(2, top, 0), lends(3, 1, 0)), 0, 0)
	room(t, of(low, top, top, lends(1, 0, top), lends(3, 0, 7)), 1<<63-7, 0)
	room(t, of(low, top, 0, lends(1, top, top)), 1, 0)
}

func TestP15_2Total(t *testing.T) {
	rows := []struct {
		a  api.Account
		v  int
		is bool
	}{
		{of(0, 10, 4), 4, true}, {of(0, 10, 0), 0, true}, {of(-9, 9, -9), -9, true}, {of(low, top, low), low, true}, {of(low, top, top), top, true},
		{frozen(of(0, 10, 4), 7), 4, true},
		{of(0, 10, 4, lends(1, 0, 0)), 0, false}, {of(0, 10, 4, lends(5, 1, 1)), 0, false}, {frozen(of(0, 10, 4, lends(1, 1, 1)), 7), 0, false},
		{locked(of(0, 10, 4), lock(1)), 0, false}, {locked(of(0, 10, 4), lock(0)), 0, false}, {frozen(locked(of(0, 10, 4), lock(0)), 2), 0, false},
		{of(0, 10, 11), 0, false}, {api.Account{}, 0, false}, {frozen(of(0, 10, 4), -1), 0, false}, {locked(of(0, 10, 4), api.Lock{N: 1}), 0, false},
		{of(0, 10, 4, []api.Holder{}...), 4, true},
	}
	for _, r := range rows {
		if v, is := Total(r.a); v != r.v || is != r.is {
			t.Errorf("Total(%s): %d, %v; want %d, %v", text(r.a), v, is, r.v, r.is)
		}
		tells(t, r.a)
	}
}

func TestP15_2Find(t *testing.T) {
	for _, l := range somebody() {
		a := of(-90, 90, 40, l...)
		for node := range 7 {
			at := slices.IndexFunc(l, func(h api.Holder) bool { return h.Node == node })
			h, is := Find(a, node)
			if is != (at >= 0) || is && h != l[at] || !is && h != (api.Holder{}) {
				t.Errorf("Find(%s, %d): %v, %v", text(a), node, h, is)
			}
		}
		a.Base = 91
		for node := range 7 {
			if h, is := Find(a, node); is || h != (api.Holder{}) {
				t.Errorf("Find(%s, %d): %v, %v", text(a), node, h, is)
			}
		}
	}
}

func TestP15_2Plain(t *testing.T) {
	for _, key := range []string{"k", "\x00", "0123456789abcdef"} {
		a := api.Account{Key: key}
		b := api.Account{Key: key, Holders: []api.Holder{}}
		if !Plain(a) || !Plain(b) {
			t.Errorf("Plain(%s): false", text(a))
		}
	}
	for _, a := range []api.Account{
		{}, of(0, 1, 0), of(-1, 0, 0), of(5, 5, 5), of(0, 10, 4), of(0, 0, 1), of(0, 0, -1), frozen(of(0, 0, 0), 1), frozen(of(0, 0, 0), -1),
		of(0, 0, 0, lends(1, 0, 0)), locked(of(0, 0, 0), lock(0)), locked(of(0, 0, 0), api.Lock{Seq: 1}), {Key: "0123456789abcdefg"},
	} {
		if Plain(a) {
			t.Errorf("Plain(%s): true", text(a))
		}
	}
}

// Calls that only ask tell of all kinds what the chapter's words tell.
func TestP15_2Kinds(t *testing.T) {
	for _, a := range kinds() {
		tells(t, a)
		if e := Check(a); e != api.OK {
			t.Errorf("%s is not right", text(a))
		}
	}
}

func TestP15_3Add(t *testing.T) {
	refuses(t, of(0, 10, 4), add(0), api.ErrArg)
	makes(t, of(0, 10, 4), add(1), of(0, 10, 5))
	makes(t, of(0, 10, 4), add(6), of(0, 10, 10))
	refuses(t, of(0, 10, 4), add(7), api.ErrBound)
	makes(t, of(0, 10, 4), add(-1), of(0, 10, 3))
	makes(t, of(0, 10, 4), add(-4), of(0, 10, 0))
	refuses(t, of(0, 10, 4), add(-5), api.ErrBound)
	refuses(t, of(0, 10, 4), add(top), api.ErrBound)
	refuses(t, of(0, 10, 4), add(low), api.ErrBound)
	l := []api.Holder{lends(1, 2, 1), lends(4, 1, 2)}
	makes(t, of(0, 10, 4, l...), add(3), of(0, 10, 7, l...))
	refuses(t, of(0, 10, 4, l...), add(4), api.ErrBound)
	makes(t, of(0, 10, 4, l...), add(-1), of(0, 10, 3, l...))
	refuses(t, of(0, 10, 4, l...), add(-2), api.ErrBound)
	makes(t, frozen(of(0, 10, 4, l...), 7), add(2), frozen(of(0, 10, 6, l...), 7))
	refuses(t, of(0, 0, 0), add(1), api.ErrBound)
	refuses(t, of(0, 0, 0), add(-1), api.ErrBound)
	for _, n := range edges {
		e := api.ErrFrozen
		if n == 0 {
			e = api.ErrArg
		}
		refuses(t, locked(of(low, top, 0), lock(0)), add(n), e)
		refuses(t, locked(of(low, top, 0), lock(top)), add(n), e)
	}
}

func TestP15_3AddOverAllInts(t *testing.T) {
	makes(t, of(low, top, low), add(top), of(low, top, -1))
	makes(t, of(low, top, -1), add(top), of(low, top, top-1))
	makes(t, of(low, top, top), add(low), of(low, top, -1))
	makes(t, of(low, top, 0), add(low), of(low, top, low))
	refuses(t, of(low, top, -1), add(low), api.ErrBound)
	makes(t, of(low, top, 0), add(top), of(low, top, top))
	refuses(t, of(low, top, 1), add(top), api.ErrBound)
	refuses(t, of(low, top, top), add(1), api.ErrBound)
	refuses(t, of(low, top, low), add(-1), api.ErrBound)
	refuses(t, of(low+1, top, 0), add(low), api.ErrBound)
	refuses(t, of(low, top, 0, lends(1, 0, 1)), add(low), api.ErrBound)
	refuses(t, of(low, top, 0, lends(1, 1, 0)), add(top), api.ErrBound)
	makes(t, of(low, top, 0, lends(1, 1, 0)), add(low), of(low, top, low, lends(1, 1, 0)))
}

// Of each kind: all the room, one more, and one less, either way.
func TestP15_3AddOfAllTheRoom(t *testing.T) {
	all := append(kinds(), of(low, top, low), of(low, top, top), of(low, top, -1), of(low, top, 0, lends(2, top, top)), of(1, top, most))
	for _, a := range all {
		fall, rise := Room(a)
		for _, n := range []uint64{rise - 1, rise, rise + 1} {
			if n >= 1 && n <= top {
				does(t, a, add(int(n)))
			}
		}
		for _, n := range []uint64{fall - 1, fall, fall + 1} {
			if n >= 1 && n <= 1<<63 {
				does(t, a, add(-int(n)))
			}
		}
		for _, n := range edges {
			does(t, a, add(n))
		}
	}
}

func TestP15_4Arguments(t *testing.T) {
	numbers := []int{low, -1, 0, 1, 2, 3, 4, 5, 6, 7, 256 + 1, 1<<32 + 1, top}
	for _, a := range []api.Account{of(0, 90, 40), of(0, 90, 40, lends(1, 1, 1), lends(5, 2, 2)), frozen(of(0, 90, 40), 7), locked(of(0, 90, 40), lock(1))} {
		free := a.Round == 0 && a.Lock.Client == 0
		for _, nodes := range numbers {
			for _, node := range numbers {
				may := nodes >= 1 && nodes <= 5 && node >= 1 && node <= nodes
				for _, lease := range edges {
					switch e := does(t, a, grant(node, lease, nodes)); {
					case !may || lease < 1 || lease > most:
						if e != api.ErrArg {
							t.Errorf("Grant(%d, %d, %d) of %s: error %d", node, lease, nodes, text(a), e)
						}
					case free != (e == api.OK), !free && e != api.ErrFrozen:
						t.Errorf("Grant(%d, %d, %d) of %s: error %d", node, lease, nodes, text(a), e)
					}
				}
			}
		}
	}
}

func TestP15_4Shares(t *testing.T) {
	by := func(node, lease, up, down int) api.Holder {
		return api.Holder{Node: node, Lease: lease, Up: up, Down: down}
	}
	makes(t, of(0, 10, 4), grant(1, 7, 3), of(0, 10, 4, by(1, 7, 1, 1)))
	makes(t, of(0, 10, 4), grant(1, 7, 1), of(0, 10, 4, by(1, 7, 3, 2)))
	makes(t, of(0, 10, 4), grant(2, 7, 5), of(0, 10, 4, by(2, 7, 1, 0)))
	makes(t, of(0, 100, 60), grant(4, 1, 4), of(0, 100, 60, by(4, 1, 8, 12)))
	makes(t, of(0, 99, 60), grant(4, 1, 4), of(0, 99, 60, by(4, 1, 7, 12)))
	makes(t, of(-9, -3, -5), grant(1, most, 2), of(-9, -3, -5, by(1, most, 0, 1)))
	// No room: a holder of nothing.
	makes(t, of(0, 0, 0), grant(3, 9, 3), of(0, 0, 0, by(3, 9, 0, 0)))
	makes(t, of(0, 10, 4, by(2, 5, 6, 4)), grant(1, 9, 3), of(0, 10, 4, by(1, 9, 0, 0), by(2, 5, 6, 4)))
	// One who holds already keeps the lease, and holds more.
	makes(t, of(0, 10, 4, by(1, 7, 1, 1)), grant(1, 8, 3), of(0, 10, 4, by(1, 7, 2, 1)))
	makes(t, of(0, 10, 4, by(1, top, 1, 0)), grant(1, 8, 1), of(0, 10, 4, by(1, top, 3, 2)))
	makes(t, of(0, 100, 50, by(2, 7, 10, 20)), grant(2, 3, 3), of(0, 100, 50, by(2, 7, 20, 27)))
	makes(t, of(0, 10, 4, by(1, 7, 6, 4)), grant(1, 8, 3), of(0, 10, 4, by(1, 7, 6, 4)))
	// What is lent to others is no room, and others hold what they held.
	makes(t, of(0, 100, 50, by(2, 7, 10, 20)), grant(1, 3, 3), of(0, 100, 50, by(1, 3, 10, 7), by(2, 7, 10, 20)))
	makes(t, of(0, 100, 50, by(2, 7, 10, 20)), grant(3, 3, 3), of(0, 100, 50, by(2, 7, 10, 20), by(3, 3, 10, 7)))
	makes(t, of(0, 100, 50, by(1, 7, 10, 20), by(5, 9, 0, 0)), grant(3, 3, 3), of(0, 100, 50, by(1, 7, 10, 20), by(3, 3, 10, 7), by(5, 9, 0, 0)))
}

// Whoever holds already, whoever is lent to: the holder stands at its place.
func TestP15_4Places(t *testing.T) {
	for _, l := range somebody() {
		for nodes := 1; nodes <= 5; nodes++ {
			for node := 1; node <= nodes; node++ {
				if e := does(t, of(-90, 90, 40, l...), grant(node, 77, nodes)); e != api.OK {
					t.Errorf("Grant(%d, 77, %d) of %v: error %d", node, nodes, l, e)
				}
				refuses(t, frozen(of(-90, 90, 40, l...), 1), grant(node, 77, nodes), api.ErrFrozen)
			}
		}
	}
}

func TestP15_4RoomThatNoIntHas(t *testing.T) {
	makes(t, of(low, top, low), grant(1, 1, 1), of(low, top, low, api.Holder{Node: 1, Lease: 1, Up: top}))
	makes(t, of(low, top, top), grant(1, 1, 1), of(low, top, top, api.Holder{Node: 1, Lease: 1, Down: top}))
	makes(t, of(low, top, 0), grant(1, 1, 1), of(low, top, 0, api.Holder{Node: 1, Lease: 1, Up: top / 2, Down: most}))
	makes(t, of(low, top, -1), grant(1, 1, 1), of(low, top, -1, api.Holder{Node: 1, Lease: 1, Up: most, Down: top / 2}))
	makes(t, of(low, top, low), grant(2, 1, 2), of(low, top, low, api.Holder{Node: 2, Lease: 1, Up: math.MaxUint64 / 3}))
	makes(t, of(low, top, low), grant(5, 1, 5), of(low, top, low, api.Holder{Node: 5, Lease: 1, Up: math.MaxUint64 / 6}))
	makes(t, of(low, top, low+1), grant(5, 1, 5), of(low, top, low+1, api.Holder{Node: 5, Lease: 1, Up: (math.MaxUint64 - 1) / 6}))
}

// An Up or a Down goes up to 2^63 - 1, and no further: what would pass is not
// lent.
func TestP15_4PastTheInts(t *testing.T) {
	for _, up := range []int{top, top - 1, top - 2, top - 10, most, most + 1, top/3*2 + 1, 7} {
		for nodes := 1; nodes <= 5; nodes++ {
			a := of(low, top, low, api.Holder{Node: 1, Lease: 7, Up: up})
			share := (uint64(math.MaxUint64) - uint64(up)) / uint64(nodes+1)
			more := int(min(uint64(up)+share, 1<<63-1))
			makes(t, a, grant(1, 8, nodes), of(low, top, low, api.Holder{Node: 1, Lease: 7, Up: more}))
			b := of(low, top, top, api.Holder{Node: 1, Lease: 7, Down: up})
			makes(t, b, grant(1, 8, nodes), of(low, top, top, api.Holder{Node: 1, Lease: 7, Down: more}))
		}
	}
	full := of(low, top, low, api.Holder{Node: 1, Lease: 7, Up: top})
	makes(t, full, grant(1, 8, 1), full)
	room(t, made(t, full, grant(1, 8, 1)), 0, 1<<63)
	both := of(low, top, 0, api.Holder{Node: 1, Lease: 7, Up: top, Down: top})
	makes(t, both, grant(1, 8, 1), both)
	a := of(low, top, low)
	for range 5 {
		a = made(t, a, grant(1, 7, 1))
		a = made(t, a, grant(2, 9, 2))
		a = made(t, a, grant(3, 9, 3))
		tells(t, a)
	}
}

func TestP15_5Freeze(t *testing.T) {
	for _, a := range kinds() {
		for _, round := range edges {
			switch {
			case round < 1 || round > most:
				refuses(t, a, freeze(round), api.ErrArg)
			case a.Round == 0:
				makes(t, a, freeze(round), frozen(a, round))
			default:
				makes(t, a, freeze(round), a)
			}
		}
	}
}

func TestP15_5Thaw(t *testing.T) {
	for _, a := range kinds() {
		makes(t, a, thaw(), frozen(a, 0))
		makes(t, frozen(a, 9), thaw(), frozen(a, 0))
	}
}

func TestP15_5Report(t *testing.T) {
	l := []api.Holder{lends(1, 2, 1), lends(3, 0, 0), lends(4, 1, 2)}
	a := frozen(of(0, 10, 4, l...), 7)
	makes(t, a, report(1, 10, 7, 2), frozen(of(0, 10, 6, l[1:]...), 7))
	makes(t, a, report(1, 10, 7, 0), frozen(of(0, 10, 4, l[1:]...), 7))
	makes(t, a, report(1, 10, 7, -1), frozen(of(0, 10, 3, l[1:]...), 7))
	makes(t, a, report(3, 30, 7, 0), frozen(of(0, 10, 4, l[0], l[2]), 7))
	makes(t, a, report(4, 40, 7, -2), frozen(of(0, 10, 2, l[:2]...), 7))
	for _, net := range []int{3, 4, top, -2, -3, low} {
		refuses(t, a, report(1, 10, 7, net), api.ErrBound)
	}
	for _, net := range []int{1, -1, top, low} {
		refuses(t, a, report(3, 30, 7, net), api.ErrBound)
	}
	for _, node := range []int{low, -1, 0, 2, 5, 6, 1<<32 + 1, top} {
		refuses(t, a, report(node, 10, 7, 0), api.ErrHolder)
	}
	for _, lease := range []int{low, -10, 0, 9, 11, 30, 40, top} {
		refuses(t, a, report(1, lease, 7, 0), api.ErrHolder)
	}
	for _, round := range []int{low, -7, 0, 1, 6, 8, top} {
		refuses(t, a, report(1, 10, round, 0), api.ErrFrozen)
		refuses(t, frozen(a, 0), report(1, 10, round, 0), api.ErrFrozen)
	}
	refuses(t, frozen(a, 0), report(1, 10, 7, 0), api.ErrFrozen)
	once := made(t, a, report(1, 10, 7, 2))
	refuses(t, once, report(1, 10, 7, 2), api.ErrHolder)
	refuses(t, locked(of(0, 10, 4), lock(1)), report(1, 10, 7, 0), api.ErrHolder)
	refuses(t, of(0, 10, 4), report(0, 0, 0, 0), api.ErrHolder)
}

func TestP15_5ReportAtTheEnds(t *testing.T) {
	up := frozen(of(low, top, low, api.Holder{Node: 2, Lease: top, Up: top}), top)
	makes(t, up, report(2, top, top, top), frozen(of(low, top, -1), top))
	makes(t, up, report(2, top, top, 0), frozen(of(low, top, low), top))
	refuses(t, up, report(2, top, top, -1), api.ErrBound)
	refuses(t, up, report(2, top, top, low), api.ErrBound)
	down := frozen(of(low, top, top, api.Holder{Node: 2, Lease: 1, Down: top}), 1)
	makes(t, down, report(2, 1, 1, -top), frozen(of(low, top, 0), 1))
	refuses(t, down, report(2, 1, 1, low), api.ErrBound)
	refuses(t, down, report(2, 1, 1, 1), api.ErrBound)
	both := frozen(of(low, top, 0, api.Holder{Node: 2, Lease: 1, Up: top, Down: top}), 1)
	makes(t, both, report(2, 1, 1, top), frozen(of(low, top, top), 1))
	makes(t, both, report(2, 1, 1, -top), frozen(of(low, top, low+1), 1))
	refuses(t, both, report(2, 1, 1, low), api.ErrBound)
}

// Whichever holder reports: it alone is gone. All of them, in any order, leave a
// total that is known.
func TestP15_5ReportOfEach(t *testing.T) {
	for _, l := range somebody() {
		for at, h := range l {
			a := frozen(of(-90, 90, 40, l...), 9)
			for net := -h.Down - 1; net <= h.Up+1; net++ {
				does(t, a, report(h.Node, h.Lease, 9, net))
			}
			for left := range l {
				k := l[(at+left)%len(l)]
				a = made(t, a, report(k.Node, k.Lease, 9, 0))
			}
			if v, is := Total(a); v != 40 || !is {
				t.Errorf("Total(%s): %d, %v", text(a), v, is)
			}
		}
	}
}

func TestP15_6Bounds(t *testing.T) {
	makes(t, of(0, 10, 4), bounds(4, 4), of(4, 4, 4))
	makes(t, of(0, 10, 4), bounds(-5, 99), of(-5, 99, 4))
	makes(t, of(0, 10, 4), bounds(low, top), of(low, top, 4))
	makes(t, frozen(of(0, 10, 4), 7), bounds(3, 5), frozen(of(3, 5, 4), 7))
	for _, s := range [][2]int{{5, 10}, {0, 3}, {5, 3}, {10, 0}, {top, low}, {low, 3}, {5, top}, {top, top}, {low, low}} {
		refuses(t, of(0, 10, 4), bounds(s[0], s[1]), api.ErrBound)
		refuses(t, of(0, 10, 4, lends(1, 0, 0)), bounds(s[0], s[1]), api.ErrFrozen)
		refuses(t, locked(of(0, 10, 4), lock(0)), bounds(s[0], s[1]), api.ErrFrozen)
	}
	refuses(t, of(0, 10, 4, lends(1, 0, 0)), bounds(0, 10), api.ErrFrozen)
	refuses(t, frozen(of(0, 10, 4, lends(1, 1, 1)), 7), bounds(0, 10), api.ErrFrozen)
	refuses(t, locked(of(0, 10, 4), lock(1)), bounds(0, 10), api.ErrFrozen)
	makes(t, of(low, top, low), bounds(low, low), of(low, low, low))
	makes(t, of(low, top, top), bounds(top, top), of(top, top, top))
	makes(t, of(low, low, low), bounds(low, top), of(low, top, low))
	refuses(t, of(low, top, low), bounds(low+1, top), api.ErrBound)
	refuses(t, of(low, top, top), bounds(low, top-1), api.ErrBound)
}

func TestP15_6Take(t *testing.T) {
	for _, n := range []int{-4, -1, 0, 1, 6} {
		makes(t, of(0, 10, 4), take(lock(n)), locked(of(0, 10, 4), lock(n)))
		makes(t, frozen(of(0, 10, 4), 7), take(lock(n)), frozen(locked(of(0, 10, 4), lock(n)), 7))
		refuses(t, of(0, 10, 4, lends(1, 0, 0)), take(lock(n)), api.ErrFrozen)
		refuses(t, frozen(of(0, 10, 4, lends(1, 0, 0)), 7), take(lock(n)), api.ErrFrozen)
		refuses(t, locked(of(0, 10, 4), lock(n)), take(lock(n)), api.ErrFrozen)
		refuses(t, locked(of(0, 10, 4), lock(0)), take(api.Lock{Client: 1, Seq: 1, Home: 1, N: n}), api.ErrFrozen)
	}
	for _, n := range []int{-5, 7, low, top} {
		refuses(t, of(0, 10, 4), take(lock(n)), api.ErrBound)
	}
	for _, n := range append([]int{5, 6, 7, 8, 9, 256 + 1, 1<<32 + 1}, edges...) {
		for _, l := range []api.Lock{{Client: n, Seq: 4, Home: 5, N: 1}, {Client: 3, Seq: n, Home: 5, N: 1}, {Client: 3, Seq: 4, Home: n, N: 1}} {
			if l.Client < 1 || l.Seq < 1 || l.Home < 1 || l.Home > 7 {
				refuses(t, of(0, 10, 4), take(l), api.ErrArg)
			} else {
				makes(t, of(0, 10, 4), take(l), locked(of(0, 10, 4), l))
			}
		}
	}
	refuses(t, of(0, 10, 4), take(api.Lock{}), api.ErrArg)
	refuses(t, of(0, 10, 4), take(api.Lock{N: 1}), api.ErrArg)
}

func TestP15_6TakeAtTheEnds(t *testing.T) {
	rows := []struct {
		base, n int
		is      bool
	}{
		{0, top, true}, {1, top, false}, {0, low, true}, {-1, low, false}, {low, top, true}, {top, low, true},
		{low, low, false}, {low, -1, false}, {low, 1, true}, {top, top, false}, {top, 1, false}, {top, -1, true}, {most, most, false}, {most, most - 1, true}, {-most, -most, true}, {-most - 1, -most, false},
	}
	for _, r := range rows {
		a := of(low, top, r.base)
		if r.is {
			makes(t, a, take(lock(r.n)), locked(a, lock(r.n)))
			makes(t, locked(a, lock(r.n)), free(true), of(low, top, r.base+r.n))
			makes(t, locked(a, lock(r.n)), free(false), a)
		} else {
			refuses(t, a, take(lock(r.n)), api.ErrBound)
		}
	}
	refuses(t, of(low+1, top, 0), take(lock(low)), api.ErrBound)
	refuses(t, of(low, top-1, 0), take(lock(top)), api.ErrBound)
}

func TestP15_6Free(t *testing.T) {
	for _, n := range []int{-4, -1, 0, 1, 6} {
		for _, round := range []int{0, 1, most, top} {
			a := frozen(locked(of(0, 10, 4), lock(n)), round)
			makes(t, a, free(true), frozen(of(0, 10, 4+n), round))
			makes(t, a, free(false), frozen(of(0, 10, 4), round))
		}
	}
	for _, a := range kinds() {
		if a.Lock.Client == 0 {
			refuses(t, a, free(true), api.ErrNone)
			refuses(t, a, free(false), api.ErrNone)
		}
	}
}

// Each call of each kind, against the chapter's words.
func TestP15EachOfEach(t *testing.T) {
	for _, a := range kinds() {
		for _, w := range wishes() {
			does(t, a, w)
		}
	}
}

// R5: of several errors the one that the chapter names first.
func TestR5Order(t *testing.T) {
	bad := of(0, 10, 11)
	for _, w := range []wish{add(0), grant(0, 0, 0), freeze(0), thaw(), report(0, 0, 0, 0), bounds(0, 0), take(api.Lock{}), free(true)} {
		refuses(t, bad, w, api.ErrForm)
		refuses(t, locked(frozen(bad, 7), lock(0)), w, api.ErrForm)
	}
	held := frozen(of(0, 10, 4, lends(1, 1, 1)), 7)
	taken := locked(of(0, 10, 4), lock(1))
	refuses(t, taken, add(0), api.ErrArg)
	refuses(t, taken, add(100), api.ErrFrozen)
	refuses(t, held, grant(0, 1, 3), api.ErrArg)
	refuses(t, held, grant(1, 0, 3), api.ErrArg)
	refuses(t, taken, grant(4, 1, 3), api.ErrArg)
	refuses(t, held, freeze(0), api.ErrArg)
	refuses(t, held, report(2, 10, 8, 100), api.ErrHolder)
	refuses(t, held, report(1, 11, 8, 100), api.ErrHolder)
	refuses(t, held, report(1, 10, 8, 100), api.ErrFrozen)
	refuses(t, held, report(1, 10, 7, 100), api.ErrBound)
	refuses(t, frozen(held, 0), report(1, 11, 0, 100), api.ErrHolder)
	refuses(t, frozen(held, 0), report(1, 10, 0, 100), api.ErrFrozen)
	refuses(t, held, bounds(100, 0), api.ErrFrozen)
	refuses(t, taken, bounds(100, 0), api.ErrFrozen)
	refuses(t, held, take(api.Lock{N: 100}), api.ErrArg)
	refuses(t, taken, take(api.Lock{N: 100}), api.ErrArg)
	refuses(t, of(0, 10, 4), take(api.Lock{N: 100}), api.ErrArg)
	refuses(t, held, take(lock(100)), api.ErrFrozen)
	refuses(t, taken, take(lock(100)), api.ErrFrozen)
}
