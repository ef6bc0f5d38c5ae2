package ballot

import (
	"errors"
	"fmt"
	"math"
	"slices"
	"testing"

	"purse/api"
)

// thing is something with a ballot and a name of its own.
type thing struct {
	name string
	b    api.Ballot
}

func ofThing(x thing) api.Ballot { return x.b }

// best fails, if Best of these things is not the one of that name; "": none.
func best(t *testing.T, l []thing, name string) {
	t.Helper()
	x, is := Best(l, ofThing)
	if x.name != name || is != (name != "") {
		t.Errorf("Best(%v): %v, %v; want %q", l, x, is, name)
	}
	if !is && x != (thing{}) {
		t.Errorf("Best(%v): %v beside a false", l, x)
	}
}

func TestP9_4Best(t *testing.T) {
	best(t, nil, "")
	best(t, []thing{}, "")
	best(t, []thing{{"a", b(1, 1)}}, "a")
	best(t, []thing{{"a", b(1, 1)}, {"b", b(2, 1)}, {"c", b(2, 1)}}, "b")
	best(t, []thing{{"a", b(2, 1)}, {"b", b(2, 1)}, {"c", b(2, 1)}}, "a")
	best(t, []thing{{"a", b(2, 3)}, {"b", b(3, 1)}, {"c", b(1, 5)}}, "b")
	best(t, []thing{{"a", b(2, 1)}, {"b", b(2, 2)}, {"c", b(2, 3)}}, "c")
	best(t, []thing{{"a", b(2, 3)}, {"b", b(2, 2)}, {"c", b(2, 3)}}, "a")
	best(t, []thing{{"a", b(top, low)}, {"b", b(top, top)}, {"c", b(low, top)}}, "b")
}

// Ballots that are not above the zero one, which is nobody's, count as others do.
func TestP9_4BestOfLowBallots(t *testing.T) {
	for _, x := range []api.Ballot{b(0, 0), b(0, -1), b(-1, 0), b(-1, 9), b(low, low), b(low, top)} {
		best(t, []thing{{"a", x}}, "a")
		best(t, []thing{{"a", x}, {"b", x}}, "a")
		best(t, []thing{{"a", b(low, low)}, {"b", x}, {"c", x}}, map[bool]string{true: "a", false: "b"}[x == b(low, low)])
	}
	best(t, []thing{{"a", b(-3, 1)}, {"b", b(-2, 0)}, {"c", b(-2, 0)}}, "b")
	best(t, []thing{{"a", b(0, 0)}, {"b", b(0, 0)}}, "a")
}

// A thing that is zero is one, too.
func TestP9_4BestOfZeroThings(t *testing.T) {
	for n := 1; n < 4; n++ {
		if x, is := Best(make([]thing, n), ofThing); x != (thing{}) || !is {
			t.Errorf("Best of %d zero things: %v, %v; want true", n, x, is)
		}
	}
}

// bestOf is the place of the first one that no other is above, by the chapter's
// words.
func bestOf(l []api.Ballot) int {
	return slices.IndexFunc(l, func(x api.Ballot) bool {
		return !slices.ContainsFunc(l, func(y api.Ballot) bool { return below(x, y) })
	})
}

// Best of each list of up to five: the first one, and of asked of each.
func TestP9_4BestOfAllLists(t *testing.T) {
	places := []int{0, 1, 2, 3, 4}
	for size := 1; size <= len(places); size++ {
		lists(few, size, func(l []api.Ballot) {
			asked := [5]int{}
			of := func(place int) api.Ballot {
				asked[place]++
				return l[place]
			}
			if got, is := Best(places[:size], of); got != bestOf(l) || !is {
				t.Fatalf("Best of %v: the one at %d, %v; want that at %d", l, got, is, bestOf(l))
			}
			if slices.Contains(asked[:size], 0) {
				t.Fatalf("Best of %v has asked of each %v times", l, asked[:size])
			}
		})
	}
}

// of is asked of each thing, whichever is the best, and be there just one.
func TestP9_4OfIsAskedOfEach(t *testing.T) {
	for size := range 20 {
		for at := range max(size, 1) {
			asked := map[int]int{}
			of := func(i int) api.Ballot {
				asked[i]++
				if i == at {
					return b(top, top)
				}
				return b(i, 1)
			}
			l := make([]int, size)
			for i := range l {
				l[i] = i
			}
			if got, is := Best(l, of); is != (size > 0) || is && got != at {
				t.Errorf("Best of %d: %d, %v; want %d", size, got, is, at)
			}
			if len(asked) != size {
				t.Errorf("of %d things %d were asked of", size, len(asked))
			}
		}
	}
}

// of decides: of one list each function has its own best one.
func TestP9_4OfDecides(t *testing.T) {
	l := []api.Vote{{Slot: 1, Ballot: b(1, 9)}, {Slot: 2, Ballot: b(3, 1)}, {Slot: 3, Ballot: b(2, 5)}}
	for turn, slot := range []int{2, 1, 3, 2} {
		of := func(v api.Vote) api.Ballot {
			switch turn {
			case 0:
				return v.Ballot
			case 1:
				return b(v.Ballot.Node, 0)
			case 2:
				return b(0, v.Slot)
			default:
				return b(-v.Ballot.Node, 0)
			}
		}
		if v, is := Best(l, of); v.Slot != slot || !is {
			t.Errorf("Best by way %d: slot %d, %v; want %d", turn, v.Slot, is, slot)
		}
	}
}

// byNumbers fails, if Best of things of a type, made of numbers, is not the one
// of the greatest number.
func byNumbers[T any](t *testing.T, make func(n int) T, number func(v T) int) {
	t.Helper()
	of := func(v T) api.Ballot { return b(number(v), 1) }
	for _, r := range []struct {
		l    []int
		want int
	}{{[]int{1, 7, 3}, 7}, {[]int{7, 1, 3}, 7}, {[]int{1, 3, 7}, 7}, {[]int{5, 5, 2}, 5}, {[]int{4}, 4}} {
		var l []T
		for _, n := range r.l {
			l = append(l, make(n))
		}
		if v, is := Best(l, of); !is || number(v) != r.want {
			t.Errorf("Best of %T by %v: %v, %v; want %d", l, r.l, v, is, r.want)
		}
	}
	if v, is := Best(nil, of); is || fmt.Sprintf("%#v", v) != fmt.Sprintf("%#v", *new(T)) {
		t.Errorf("Best of no %T: %v, %v; want zero and false", v, v, is)
	}
}

func TestP9_4UnlikeTypes(t *testing.T) {
	byNumbers(t, func(n int) int { return n }, func(v int) int { return v })
	byNumbers(t, func(n int) byte { return byte(n) }, func(v byte) int { return int(v) })
	byNumbers(t, func(n int) float64 { return float64(n) / 2 }, func(v float64) int { return int(2 * v) })
	byNumbers(t, func(n int) string { return "xxxxxxxxx"[:n] }, func(v string) int { return len(v) })
	byNumbers(t, func(n int) []byte { return make([]byte, n) }, func(v []byte) int { return len(v) })
	byNumbers(t, func(n int) *int { return &n }, func(v *int) int { return *v })
	byNumbers(t, func(n int) any { return n }, func(v any) int { return v.(int) })
	byNumbers(t, func(n int) error { return fault(n) }, func(v error) int { return int(v.(fault)) })
	byNumbers(t, func(n int) map[string]int { return map[string]int{"n": n} }, func(v map[string]int) int { return v["n"] })
	byNumbers(t, func(n int) func() int { return func() int { return n } }, func(v func() int) int { return v() })
	byNumbers(t, func(n int) chan int { return make(chan int, n) }, func(v chan int) int { return cap(v) })
	byNumbers(t, func(n int) [500]int { return [500]int{499: n} }, func(v [500]int) int { return v[499] })
	byNumbers(t, func(n int) api.Ballot { return b(n, 1) }, func(v api.Ballot) int { return v.Round })
	byNumbers(t, func(n int) api.Vote { return api.Vote{Slot: n, Value: []byte("x")} }, func(v api.Vote) int { return v.Slot })
	byNumbers(t, func(n int) api.Promise { return api.Promise{Node: n} }, func(v api.Promise) int { return v.Node })
}

// fault is an error by a number.
type fault int

func (n fault) Error() string { return fmt.Sprint(int(n)) }

// Things that are equal by no means, or have nothing in them, are told, too.
func TestP9_4OddThings(t *testing.T) {
	same := func(float64) api.Ballot { return b(1, 1) }
	if v, is := Best([]float64{math.NaN(), 2}, same); !math.IsNaN(v) || !is {
		t.Errorf("Best: %v, %v; want the first one", v, is)
	}
	if v, is := Best([]bool{true, false, false}, func(v bool) api.Ballot { return b(1, map[bool]int{true: 1, false: 2}[v]) }); v || !is {
		t.Errorf("Best: %v, %v; want false, and true", v, is)
	}
	if _, is := Best(make([]struct{}, 3), func(struct{}) api.Ballot { return b(0, 0) }); !is {
		t.Error("Best of things with nothing in them: false")
	}
	one := 1
	if v, is := Best([]*int{nil, &one}, func(*int) api.Ballot { return b(2, 2) }); v != nil || !is {
		t.Errorf("Best: %v, %v; want the nil that stands first", v, is)
	}
	if v, is := Best([]any{nil, nil}, func(any) api.Ballot { return b(2, 2) }); v != nil || !is {
		t.Errorf("Best: %v, %v; want nil and true", v, is)
	}
}

func TestP9_4LongList(t *testing.T) {
	l := make([]int, 1<<18)
	for i := range l {
		l[i] = i
	}
	for _, at := range []int{0, 1, 77777, len(l) - 2, len(l) - 1} {
		of := func(i int) api.Ballot {
			if i >= at {
				return b(9, 2)
			}
			return b(9, 1)
		}
		if got, is := Best(l, of); got != at || !is {
			t.Errorf("Best of many: %d, %v; want %d", got, is, at)
		}
	}
}

// R1: a function that is nil tells no ballots, and is no reason to panic.
func TestR1NilFunction(t *testing.T) {
	for _, l := range [][]thing{nil, {}, {{"a", b(1, 1)}}, {{"a", b(1, 1)}, {"b", b(2, 2)}}} {
		if x, is := Best(l, nil); x != (thing{}) || is {
			t.Errorf("Best(%v, nil): %v, %v; want zero and false", l, x, is)
		}
	}
}

// R1: nor does a panic of the function come out; then nothing is told.
func TestR1FunctionThatPanics(t *testing.T) {
	l := []thing{{"a", b(1, 1)}, {"b", b(2, 2)}, {"c", b(1, 3)}}
	for _, bad := range l {
		for _, what := range []any{nil, "text", 5, errors.New("error")} {
			of := func(x thing) api.Ballot {
				if x == bad {
					panic(what)
				}
				return x.b
			}
			if x, is := Best(l, of); x != (thing{}) || is {
				t.Errorf("Best with a panic (%v) of %v: %v, %v; want zero and false", what, bad, x, is)
			}
		}
		best(t, l, "b")
	}
	outside := func(i int) api.Ballot { return l[i].b }
	if i, is := Best([]int{1, 2, 3, 0}, outside); i != 0 || is {
		t.Errorf("Best with a place outside: %d, %v; want zero and false", i, is)
	}
}

// R3: what is handed in stays as it is, with the room behind its end; what is
// handed out does not change with it.
func TestP9_4HandedInStays(t *testing.T) {
	room := []thing{{"a", b(1, 1)}, {"b", b(4, 2)}, {"c", b(3, 3)}, {"d", b(9, 9)}, {"e", b(0, 0)}}
	old := slices.Clone(room)
	of := func(x thing) api.Ballot {
		defer func() { x = thing{} }()
		return x.b
	}
	x, is := Best(room[:3], of)
	if x.name != "b" || !is || !slices.Equal(room, old) {
		t.Errorf("Best: %v, %v; what was handed in is %v", x, is, room)
	}
	clear(room)
	if x != old[1] {
		t.Errorf("what was handed out is %v behind a change of the list", x)
	}
}
