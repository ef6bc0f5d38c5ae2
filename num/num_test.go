package num

import (
	"math"
	"math/big"
	"slices"
	"testing"

	"purse/api"
)

const (
	low  = math.MinInt
	top  = math.MaxInt
	most = math.MaxUint64
)

// edges are the numbers at which sums, differences and spans turn.
var edges = []int{
	low, low + 1, low + 2, low/2 - 1, low / 2, -1000, -7, -2, -1,
	0, 1, 2, 7, 1000, top / 2, top/2 + 1, top - 2, top - 1, top,
}

// spans are all pairs of edges: spans, and pairs that are none.
func spans() []api.Span {
	var l []api.Span
	for _, lo := range edges {
		for _, hi := range edges {
			l = append(l, api.Span{Lo: lo, Hi: hi})
		}
	}
	return l
}

func wide(v int) *big.Int { return big.NewInt(int64(v)) }

// asInt is what a call must answer whose result, without bounds, is v.
func asInt(v *big.Int) (int, api.Errno) {
	if !v.IsInt64() {
		return 0, api.ErrOver
	}
	return int(v.Int64()), api.OK
}

func sumOf(l []int) *big.Int {
	s := new(big.Int)
	for _, v := range l {
		s.Add(s, wide(v))
	}
	return s
}

func TestP1_1AddSubExamples(t *testing.T) {
	rows := []struct {
		name string
		call func(a, b int) (int, api.Errno)
		a, b int
		want int
		e    api.Errno
	}{
		{"Add", Add, 2, 3, 5, api.OK},
		{"Add", Add, 2, -3, -1, api.OK},
		{"Add", Add, top, 1, 0, api.ErrOver},
		{"Add", Add, 1, top, 0, api.ErrOver},
		{"Add", Add, top, 0, top, api.OK},
		{"Add", Add, low, 0, low, api.OK},
		{"Add", Add, low, -1, 0, api.ErrOver},
		{"Add", Add, low, low, 0, api.ErrOver},
		{"Add", Add, top, top, 0, api.ErrOver},
		{"Add", Add, top, low, -1, api.OK},
		{"Sub", Sub, 5, 3, 2, api.OK},
		{"Sub", Sub, 3, 5, -2, api.OK},
		{"Sub", Sub, 0, low, 0, api.ErrOver},
		{"Sub", Sub, -1, low, top, api.OK},
		{"Sub", Sub, low, low, 0, api.OK},
		{"Sub", Sub, low, 1, 0, api.ErrOver},
		{"Sub", Sub, top, -1, 0, api.ErrOver},
		{"Sub", Sub, -1, top, low, api.OK},
		{"Sub", Sub, -2, top, 0, api.ErrOver},
	}
	for _, r := range rows {
		if got, e := r.call(r.a, r.b); got != r.want || e != r.e {
			t.Errorf("%s(%d, %d): %d, error %d; want %d, error %d", r.name, r.a, r.b, got, e, r.want, r.e)
		}
	}
}

func TestP1_1AddSubAtEdges(t *testing.T) {
	for _, a := range edges {
		for _, b := range edges {
			want, wantE := asInt(new(big.Int).Add(wide(a), wide(b)))
			if got, e := Add(a, b); got != want || e != wantE {
				t.Fatalf("Add(%d, %d): %d, error %d; want %d, error %d", a, b, got, e, want, wantE)
			}
			want, wantE = asInt(new(big.Int).Sub(wide(a), wide(b)))
			if got, e := Sub(a, b); got != want || e != wantE {
				t.Fatalf("Sub(%d, %d): %d, error %d; want %d, error %d", a, b, got, e, want, wantE)
			}
		}
	}
}

func TestP1_1SumExamples(t *testing.T) {
	rows := []struct {
		l    []int
		want int
		e    api.Errno
	}{
		{nil, 0, api.OK},
		{[]int{}, 0, api.OK},
		{[]int{low}, low, api.OK},
		{[]int{top}, top, api.OK},
		{[]int{1, 2, 3, -4}, 2, api.OK},
		{[]int{top, 5, -5}, top, api.OK},
		{[]int{low, -5, 5}, low, api.OK},
		{[]int{top, 1}, 0, api.ErrOver},
		{[]int{low, -1}, 0, api.ErrOver},
		{[]int{low, low, top, top, 1}, -1, api.OK},
		{[]int{top, top, top, low, low, low}, -3, api.OK},
		// These come back to a small number if they are let wrap.
		{[]int{low, low}, 0, api.ErrOver},
		{[]int{top, top, 2}, 0, api.ErrOver},
		{[]int{low, low, low, low}, 0, api.ErrOver},
	}
	for _, r := range rows {
		if got, e := Sum(r.l...); got != r.want || e != r.e {
			t.Errorf("Sum(%v): %d, error %d; want %d, error %d", r.l, got, e, r.want, r.e)
		}
	}
	if got, e := Sum(); got != 0 || e != api.OK {
		t.Errorf("Sum(): %d, error %d; want 0, error 0", got, e)
	}
}

func TestP1_1SumAtEdges(t *testing.T) {
	for _, a := range edges {
		for _, b := range edges {
			for _, c := range edges {
				for _, d := range []int{low, -1, 0, 1, top} {
					l := []int{a, b, c, d}
					want, wantE := asInt(sumOf(l))
					if got, e := Sum(l...); got != want || e != wantE {
						t.Fatalf("Sum(%v): %d, error %d; want %d, error %d", l, got, e, want, wantE)
					}
				}
			}
		}
	}
}

func TestP1_1SumOfMany(t *testing.T) {
	const n = 100000
	up := slices.Repeat([]int{top}, n)
	if got, e := Sum(up...); got != 0 || e != api.ErrOver {
		t.Errorf("Sum of %d times 2^63 - 1: %d, error %d; want error 10", n, got, e)
	}
	back := append(up, slices.Repeat([]int{low}, n)...)
	if got, e := Sum(back...); got != -n || e != api.OK {
		t.Errorf("Sum that goes far up and comes back: %d, error %d; want %d", got, e, -n)
	}
}

func TestR3SumLeavesItsList(t *testing.T) {
	room := []int{top, 5, -5, 77, 78}
	Sum(room[:3]...)
	if !slices.Equal(room, []int{top, 5, -5, 77, 78}) {
		t.Errorf("Sum changed what it was handed: %v", room)
	}
}

func TestP1_2Examples(t *testing.T) {
	for s, want := range map[api.Span]bool{
		{Lo: low, Hi: top}: true,
		{}:                 true,
		{Lo: 4, Hi: 4}:     true,
		{Lo: 1, Hi: 0}:     false,
		{Lo: top, Hi: low}: false,
	} {
		if May(s) != want {
			t.Errorf("May(%v): %v; want %v", s, !want, want)
		}
	}
	five := api.Span{Lo: 0, Hi: 5}
	for v, want := range map[int]bool{low: false, -1: false, 0: true, 3: true, 5: true, 6: false, top: false} {
		if Has(five, v) != want {
			t.Errorf("Has(%v, %d): %v; want %v", five, v, !want, want)
		}
	}
	rows := []struct {
		s          api.Span
		v          int
		fall, rise uint64
	}{
		{api.Span{Lo: low, Hi: top}, 0, 1 << 63, top},
		{api.Span{Lo: low, Hi: top}, low, 0, most},
		{api.Span{Lo: low, Hi: top}, top, most, 0},
		{five, 2, 2, 3},
		{five, 0, 0, 5},
		{five, 5, 5, 0},
		{five, 6, 0, 0},
		{five, -1, 0, 0},
		{api.Span{Lo: 5, Hi: 0}, 3, 0, 0},
		{api.Span{Lo: 5, Hi: 0}, 5, 0, 0},
		{api.Span{Lo: 5, Hi: 0}, 7, 0, 0},
	}
	for _, r := range rows {
		if fall, rise := Room(r.s, r.v); fall != r.fall || rise != r.rise {
			t.Errorf("Room(%v, %d): %d, %d; want %d, %d", r.s, r.v, fall, rise, r.fall, r.rise)
		}
	}
}

func TestP1_2AtEdges(t *testing.T) {
	for _, s := range spans() {
		if want := s.Lo <= s.Hi; May(s) != want {
			t.Fatalf("May(%v): %v; want %v", s, !want, want)
		}
		for _, v := range edges {
			want := s.Lo <= v && v <= s.Hi
			if Has(s, v) != want {
				t.Fatalf("Has(%v, %d): %v; want %v", s, v, !want, want)
			}
			fall, rise := new(big.Int), new(big.Int)
			if want {
				fall.Sub(wide(v), wide(s.Lo))
				rise.Sub(wide(s.Hi), wide(v))
			}
			if f, r := Room(s, v); f != fall.Uint64() || r != rise.Uint64() {
				t.Fatalf("Room(%v, %d): %d, %d; want %d, %d", s, v, f, r, fall, rise)
			}
		}
	}
}

func TestP1_3MeetExamples(t *testing.T) {
	rows := []struct {
		a, b, want api.Span
		is         bool
	}{
		{api.Span{Lo: 0, Hi: 5}, api.Span{Lo: 5, Hi: 9}, api.Span{Lo: 5, Hi: 5}, true},
		{api.Span{Lo: 0, Hi: 5}, api.Span{Lo: 6, Hi: 9}, api.Span{}, false},
		{api.Span{Lo: 0, Hi: 9}, api.Span{Lo: 3, Hi: 4}, api.Span{Lo: 3, Hi: 4}, true},
		{api.Span{Lo: low, Hi: top}, api.Span{Lo: -1, Hi: 7}, api.Span{Lo: -1, Hi: 7}, true},
		{api.Span{}, api.Span{}, api.Span{}, true},
		{api.Span{Lo: 5, Hi: 0}, api.Span{Lo: low, Hi: top}, api.Span{}, false},
		{api.Span{Lo: 5, Hi: 0}, api.Span{Lo: 5, Hi: 0}, api.Span{}, false},
		{api.Span{Lo: low, Hi: low}, api.Span{Lo: top, Hi: top}, api.Span{}, false},
	}
	for _, r := range rows {
		if got, is := Meet(r.a, r.b); got != r.want || is != r.is {
			t.Errorf("Meet(%v, %v): %v, %v; want %v, %v", r.a, r.b, got, is, r.want, r.is)
		}
		if got, is := Meet(r.b, r.a); got != r.want || is != r.is {
			t.Errorf("Meet(%v, %v): %v, %v; want %v, %v", r.b, r.a, got, is, r.want, r.is)
		}
	}
}

// TestP1_3MeetAtEdges leans on this: where spans have ends out of the edges,
// what both have begins and ends at edges, too.
func TestP1_3MeetAtEdges(t *testing.T) {
	for _, a := range spans() {
		for _, b := range spans() {
			var both []int
			for _, v := range edges {
				if a.Lo <= v && v <= a.Hi && b.Lo <= v && v <= b.Hi {
					both = append(both, v)
				}
			}
			var want api.Span
			if len(both) > 0 {
				want = api.Span{Lo: slices.Min(both), Hi: slices.Max(both)}
			}
			if got, is := Meet(a, b); got != want || is != (len(both) > 0) {
				t.Fatalf("Meet(%v, %v): %v, %v; want %v, %v", a, b, got, is, want, len(both) > 0)
			}
		}
	}
}

func TestP1_3ShiftExamples(t *testing.T) {
	rows := []struct {
		s    api.Span
		by   int
		want api.Span
		e    api.Errno
	}{
		{api.Span{Lo: -3, Hi: 4}, 2, api.Span{Lo: -1, Hi: 6}, api.OK},
		{api.Span{Lo: -3, Hi: 4}, -2, api.Span{Lo: -5, Hi: 2}, api.OK},
		{api.Span{Lo: low, Hi: top}, 0, api.Span{Lo: low, Hi: top}, api.OK},
		{api.Span{Lo: low, Hi: -1}, top, api.Span{Lo: -1, Hi: top - 1}, api.OK},
		{api.Span{Lo: 0, Hi: top}, 1, api.Span{}, api.ErrOver},
		{api.Span{Lo: low, Hi: 0}, -1, api.Span{}, api.ErrOver},
		{api.Span{Lo: 1, Hi: 0}, 2, api.Span{}, api.ErrArg},
		{api.Span{Lo: top, Hi: low}, 1, api.Span{}, api.ErrArg},
	}
	for _, r := range rows {
		if got, e := Shift(r.s, r.by); got != r.want || e != r.e {
			t.Errorf("Shift(%v, %d): %v, error %d; want %v, error %d", r.s, r.by, got, e, r.want, r.e)
		}
	}
}

func TestP1_3ShiftAtEdges(t *testing.T) {
	for _, s := range spans() {
		for _, by := range edges {
			lo, loE := asInt(new(big.Int).Add(wide(s.Lo), wide(by)))
			hi, hiE := asInt(new(big.Int).Add(wide(s.Hi), wide(by)))
			want, wantE := api.Span{Lo: lo, Hi: hi}, api.OK
			switch {
			case s.Lo > s.Hi:
				want, wantE = api.Span{}, api.ErrArg
			case loE != api.OK || hiE != api.OK:
				want, wantE = api.Span{}, api.ErrOver
			}
			if got, e := Shift(s, by); got != want || e != wantE {
				t.Fatalf("Shift(%v, %d): %v, error %d; want %v, error %d", s, by, got, e, want, wantE)
			}
		}
	}
}

func TestP1_4Fit(t *testing.T) {
	for n, want := range map[uint64]int{
		0: 0, 1: 1, 9: 9, top - 1: top - 1, top: top, 1 << 63: top, 1<<63 + 1: top, most - 1: top, most: top,
	} {
		if got := Fit(n); got != want {
			t.Errorf("Fit(%d): %d; want %d", n, got, want)
		}
	}
}

func TestP1_4ShareExamples(t *testing.T) {
	rows := []struct {
		n        uint64
		parts, i int
		want     uint64
	}{
		{7, 3, 0, 3}, {7, 3, 1, 2}, {7, 3, 2, 2}, {7, 3, 3, 0},
		{6, 3, 0, 2}, {6, 3, 1, 2}, {6, 3, 2, 2},
		{8, 3, 0, 3}, {8, 3, 1, 3}, {8, 3, 2, 2},
		{2, 5, 1, 1}, {2, 5, 2, 0}, {2, 5, 4, 0},
		{0, 1, 0, 0}, {9, 1, 0, 9},
		{most, 1, 0, most}, {most, 2, 0, 1 << 63}, {most, 2, 1, 1<<63 - 1},
		{most, top, 0, 3}, {most, top, 1, 2}, {most, top, top - 1, 2},
		{5, top, 4, 1}, {5, top, 5, 0},
		// No such part, or no parts.
		{7, 3, -1, 0}, {7, 3, low, 0}, {7, 3, 4, 0}, {7, 3, top, 0}, {most, 1, 1, 0},
		{7, 0, 0, 0}, {7, -1, 0, 0}, {7, -3, -1, 0}, {7, low, 0, 0}, {7, low, low, 0}, {most, top, top, 0},
	}
	for _, r := range rows {
		if got := Share(r.n, r.parts, r.i); got != r.want {
			t.Errorf("Share(%d, %d, %d): %d; want %d", r.n, r.parts, r.i, got, r.want)
		}
	}
}

// TestFollowsShares: the shares of n are n together, no two of them differ by
// more than 1, and none is greater than the one ahead of it.
func TestFollowsShares(t *testing.T) {
	ns := []uint64{top - 1, top, 1 << 63, 1<<63 + 1, most - 1, most}
	for n := range uint64(60) {
		ns = append(ns, n)
	}
	for _, n := range ns {
		for parts := 1; parts <= 40; parts++ {
			sum := new(big.Int)
			first, last := Share(n, parts, 0), Share(n, parts, parts-1)
			before := first
			for i := range parts {
				part := Share(n, parts, i)
				if part > before {
					t.Fatalf("Share(%d, %d, %d): %d, greater than the one ahead of it, %d", n, parts, i, part, before)
				}
				before = part
				sum.Add(sum, new(big.Int).SetUint64(part))
			}
			if first-last > 1 {
				t.Fatalf("shares of %d in %d parts go from %d down to %d", n, parts, first, last)
			}
			if sum.Cmp(new(big.Int).SetUint64(n)) != 0 {
				t.Fatalf("shares of %d in %d parts are %d together", n, parts, sum)
			}
		}
	}
}

// TestFollowsOrder: the order of what is summed plays no part.
func TestFollowsOrder(t *testing.T) {
	for _, l := range [][]int{
		{top, 5, -5, 1, low},
		{low, low, top, top, 1},
		{top, top, 1, 1, -1},
		{low, -1, -1, 1, 0},
		{3, -7, 11, 2, -9},
	} {
		want, wantE := asInt(sumOf(l))
		eachOrder(slices.Clone(l), 0, func(o []int) {
			if got, e := Sum(o...); got != want || e != wantE {
				t.Fatalf("Sum(%v): %d, error %d; want %d, error %d", o, got, e, want, wantE)
			}
		})
	}
}

// eachOrder shows every order of the elements of l from the place at on.
func eachOrder(l []int, at int, show func([]int)) {
	if at == len(l) {
		show(l)
		return
	}
	for i := at; i < len(l); i++ {
		l[at], l[i] = l[i], l[at]
		eachOrder(l, at+1, show)
		l[at], l[i] = l[i], l[at]
	}
}
