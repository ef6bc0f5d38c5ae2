package slots

import (
	"fmt"
	"iter"
	"maps"
	"math"
	"slices"
	"strings"
	"testing"

	"purse/api"
)

// far is the greatest place that may be First.
const far = 1 << 40

// want fails, if a call has answered another error.
func want(t testing.TB, what string, got, e api.Errno) {
	t.Helper()
	if got != e {
		t.Errorf("%s: error %d; want %d", what, got, e)
	}
}

// put fills a place, which is to be taken.
func put[T any](t testing.TB, l *Log[T], i int, v T) {
	t.Helper()
	want(t, fmt.Sprintf("Put(%d)", i), l.Put(i, v), api.OK)
}

// holds fails, if a place is not filled, or holds something else.
func holds[T comparable](t testing.TB, l *Log[T], i int, v T) {
	t.Helper()
	if got, is := l.Get(i); got != v || !is {
		t.Errorf("Get(%d): %v, %v; want %v", i, got, is, v)
	}
}

// open fails, if a place is filled, or something is told of it.
func open[T comparable](t testing.TB, l *Log[T], places ...int) {
	t.Helper()
	var none T
	for _, i := range places {
		if got, is := l.Get(i); got != none || is {
			t.Errorf("Get(%d): %v, %v; want nothing", i, got, is)
		}
	}
}

// cut fails, if Cut tells otherwise, or First is another one behind it.
func cut[T any](t testing.TB, l *Log[T], i, gone, first int) {
	t.Helper()
	if n := l.Cut(i); n != gone || l.First() != first {
		t.Errorf("Cut(%d): %d, First %d; want %d, First %d", i, n, l.First(), gone, first)
	}
}

// pairs is what an iterator of places and values tells.
func pairs[T any](seq iter.Seq2[int, T]) string {
	var l []string
	for i, v := range seq {
		l = append(l, fmt.Sprint(i, "=", v))
	}
	return strings.Join(l, " ")
}

// numbers is what an iterator of places tells.
func numbers(seq iter.Seq[int]) string {
	var l []string
	for i := range seq {
		l = append(l, fmt.Sprint(i))
	}
	return strings.Join(l, " ")
}

// shown is one line of all that a log tells.
func shown(first, next, top, filled int, all, run, holes string) string {
	return fmt.Sprintf("%d %d %d %d | %s | %s | %s", first, next, top, filled, all, run, holes)
}

func told[T any](l *Log[T]) string {
	return shown(l.First(), l.Next(), l.Top(), l.Len(), pairs(l.All()), pairs(l.Run()), numbers(l.Holes()))
}

// stands fails, if a log tells something else: First, Next, Top, Len | All |
// Run | Holes.
func stands[T any](t testing.TB, what string, l *Log[T], line string) {
	t.Helper()
	if s := told(l); s != line {
		t.Errorf("%s: %.300q; want %.300q", what, s, line)
	}
}

// plain is a log as the chapter's words have it: the places that are filled, as
// a map, in which each thing is searched for from its beginning on.
type plain[T any] struct {
	first, most int
	at          map[int]T
}

func newPlain[T any](first, most int) *plain[T] {
	p := &plain[T]{first: first, most: most, at: map[int]T{}}
	if first < 1 {
		p.first = 1
	}
	if first > far {
		p.first = far
	}
	if most < 1 {
		p.most = 1
	}
	if most > 1024 {
		p.most = 1024
	}
	return p
}

func (p *plain[T]) places() []int { return slices.Sorted(maps.Keys(p.at)) }

func (p *plain[T]) next() int {
	i := p.first
	for {
		if _, is := p.at[i]; !is {
			return i
		}
		i++
	}
}

func (p *plain[T]) top() int {
	if len(p.at) == 0 {
		return p.first
	}
	return slices.Max(p.places()) + 1
}

func (p *plain[T]) get(i int) (T, bool) {
	v, is := p.at[i]
	return v, is
}

func (p *plain[T]) put(i int, v T) api.Errno {
	if i < p.first {
		return 80
	}
	if i >= p.first+p.most {
		return 81
	}
	p.at[i] = v
	return 0
}

func (p *plain[T]) cut(i int) int {
	if i <= p.first || i > far {
		return 0
	}
	before := len(p.at)
	maps.DeleteFunc(p.at, func(place int, _ T) bool { return place < i })
	p.first = i
	return before - len(p.at)
}

func (p *plain[T]) told() string {
	var all, run, holes []string
	for _, i := range p.places() {
		all = append(all, fmt.Sprint(i, "=", p.at[i]))
	}
	for i := p.first; i < p.next(); i++ {
		run = append(run, fmt.Sprint(i, "=", p.at[i]))
	}
	top := p.top()
	for i := p.first; i < top; i++ {
		if _, is := p.at[i]; !is {
			holes = append(holes, fmt.Sprint(i))
		}
	}
	return shown(p.first, p.next(), top, len(p.at), strings.Join(all, " "), strings.Join(run, " "), strings.Join(holes, " "))
}

func (p *plain[T]) fork() *plain[T] {
	return &plain[T]{first: p.first, most: p.most, at: maps.Clone(p.at)}
}

// alike is what of a log is not as the plain one has it; "" if all is.
func alike[T comparable](l *Log[T], p *plain[T]) string {
	if got, line := told(l), p.told(); got != line {
		return fmt.Sprintf("%.300q; want %.300q", got, line)
	}
	around := []int{math.MinInt, -1, 0, 1, far - 1, far, far + 1, math.MaxInt}
	for i := p.first - 3; i < p.first+p.most+3; i++ {
		around = append(around, i)
	}
	for _, i := range around {
		got, is := l.Get(i)
		if v, filled := p.get(i); got != v || is != filled {
			return fmt.Sprintf("Get(%d): %v, %v; want %v, %v", i, got, is, v, filled)
		}
	}
	return follows(l)
}

// follows is what of 'What follows' does not hold of a log.
func follows[T comparable](l *Log[T]) string {
	seen := map[int]int{}
	for i := range l.All() {
		seen[i]++
	}
	for i := range l.Holes() {
		seen[i]++
	}
	if len(seen) != l.Top()-l.First() {
		return fmt.Sprintf("All and Holes are %d places, of %d to %d", len(seen), l.First(), l.Top())
	}
	for i := l.First(); i < l.Top(); i++ {
		if seen[i] != 1 {
			return fmt.Sprintf("All and Holes tell %d %d times", i, seen[i])
		}
	}
	all, run := pairs(l.All()), pairs(l.Run())
	at := l.First()
	for i := range l.Run() {
		if i != at {
			return fmt.Sprintf("Run tells %d in the place of %d", i, at)
		}
		at++
	}
	if at != l.Next() || !strings.HasPrefix(all+" ", run+" ") && run != "" {
		return fmt.Sprintf("Run %.200q, up to %d, is not the beginning of All, up to %d", run, at, l.Next())
	}
	return ""
}
