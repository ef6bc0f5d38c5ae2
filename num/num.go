// Package num is layer 1: whole numbers that never wrap, and pairs of bounds.
package num

import (
	"math"

	"purse/api"
)

// Add is a + b, or ErrOver if that is no int.
func Add(a, b int) (int, api.Errno) {
	if addTurns(a, b) != 0 {
		return 0, api.ErrOver
	}
	return a + b, api.OK
}

// Sub is a - b, or ErrOver if that is no int.
func Sub(a, b int) (int, api.Errno) {
	d := a - b
	// The test stands on its own and is not Add(a, -b): -2^63 has no opposite.
	if (b >= 0) != (d <= a) {
		return 0, api.ErrOver
	}
	return d, api.OK
}

// Sum is the sum of all of l, or ErrOver if that is no int. Only the end
// counts: on the way the sum may leave the ints and come back.
func Sum(l ...int) (int, api.Errno) {
	// The true sum is always sum + turns * 2^64, so it is an int just if turns
	// is 0, whatever the order was.
	sum, turns := 0, 0
	for _, v := range l {
		turns += addTurns(sum, v)
		sum += v
	}
	if turns != 0 {
		return 0, api.ErrOver
	}
	return sum, api.OK
}

// addTurns tells how often a + b goes round the ints: 1 beyond the upper end,
// -1 beyond the lower one, 0 if the sum is an int.
func addTurns(a, b int) int {
	s := a + b
	switch {
	case b >= 0 && s < a:
		return 1
	case b < 0 && s > a:
		return -1
	}
	return 0
}

// May tells whether s is a span: Lo is at most Hi.
func May(s api.Span) bool {
	return s.Lo <= s.Hi
}

// Has tells whether v is from Lo to Hi.
func Has(s api.Span, v int) bool {
	return s.Lo <= v && v <= s.Hi
}

// Room is how far v may fall and how far it may rise within s; 0, 0 if s does
// not have v.
func Room(s api.Span, v int) (uint64, uint64) {
	if !Has(s, v) {
		return 0, 0
	}
	// A distance of two ints may be no int, but it is a uint64, and the
	// difference modulo 2^64 is just that.
	return uint64(v) - uint64(s.Lo), uint64(s.Hi) - uint64(v)
}

// Meet is the span of what both have; false if there is nothing.
func Meet(a, b api.Span) (api.Span, bool) {
	m := api.Span{Lo: max(a.Lo, b.Lo), Hi: min(a.Hi, b.Hi)}
	if !May(m) {
		return api.Span{}, false
	}
	return m, true
}

// Shift is s with both ends moved by so much: ErrArg if s is no span, ErrOver
// if an end would be no int.
func Shift(s api.Span, by int) (api.Span, api.Errno) {
	if !May(s) {
		return api.Span{}, api.ErrArg
	}
	lo, e := Add(s.Lo, by)
	if e != api.OK {
		return api.Span{}, e
	}
	hi, e := Add(s.Hi, by)
	if e != api.OK {
		return api.Span{}, e
	}
	return api.Span{Lo: lo, Hi: hi}, api.OK
}

// Fit is n, or the greatest int if n is greater.
func Fit(n uint64) int {
	return int(min(n, math.MaxInt))
}

// Share is the part number i (from 0 on) of n, cut into parts as even as may
// be, the greater ones first; 0 if there is no such part.
func Share(n uint64, parts, i int) uint64 {
	if parts < 1 || i < 0 || i >= parts {
		return 0
	}
	part, left := n/uint64(parts), n%uint64(parts)
	if uint64(i) < left {
		part++
	}
	return part
}
