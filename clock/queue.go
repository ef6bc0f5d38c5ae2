package clock

import (
	"cmp"
	"container/heap"
	"maps"
	"slices"
)

// timer is a name that is set: at which Now it is due, and the number of the
// Set that was its last.
type timer struct {
	name      string
	due, turn int
}

// order is below 0, if a is told ahead of b. No two have one turn, so it is 0
// of no two.
func order(a, b timer) int {
	return cmp.Or(cmp.Compare(a.due, b.due), cmp.Compare(a.turn, b.turn))
}

// queue is timers in a heap by the order in which they are told. Its methods
// Len to Pop are the library's, which keeps the heap by them.
type queue struct {
	list []timer
	// places is where in the list each name stands, so that a timer is taken
	// out by its name without a search.
	places map[string]int
}

func newQueue() *queue {
	return &queue{places: map[string]int{}}
}

// find is the place of a name, if it stands in the queue.
func (q *queue) find(name string) (int, bool) {
	place, is := q.places[name]
	return place, is
}

// add puts in a timer whose name does not stand in the queue.
func (q *queue) add(t timer) {
	q.places[t.name] = q.Len()
	heap.Push(q, t)
}

// change puts a timer in the place of another one of the same name.
func (q *queue) change(place int, t timer) {
	q.list[place] = t
	heap.Fix(q, place)
}

// take takes out the timer at a place.
func (q *queue) take(place int) timer {
	t := q.list[place]
	heap.Remove(q, place)
	delete(q.places, t.name)
	return t
}

func (q *queue) fork() *queue {
	return &queue{list: slices.Clone(q.list), places: maps.Clone(q.places)}
}

// Len is how many timers there are.
func (q *queue) Len() int { return len(q.list) }

// Less tells whether the timer at i is told ahead of the one at j.
func (q *queue) Less(i, j int) bool { return order(q.list[i], q.list[j]) < 0 }

// Swap lets two timers change their places.
func (q *queue) Swap(i, j int) {
	q.list[i], q.list[j] = q.list[j], q.list[i]
	q.places[q.list[i].name] = i
	q.places[q.list[j].name] = j
}

// Push puts a timer at the end of the list.
func (q *queue) Push(x any) {
	q.list = append(q.list, x.(timer))
}

// Pop takes the last timer off the list.
func (q *queue) Pop() any {
	last := q.Len() - 1
	t := q.list[last]
	q.list = slices.Delete(q.list, last, last+1)
	return t
}
