package deal

import (
	"cmp"
	"slices"

	"purse/api"
)

// CheckEnds is ErrForm if l are no ends.
func CheckEnds(l []api.End) api.Errno {
	behind := 0
	for _, n := range l {
		if n.Client <= behind || !isNumber(n.Client, n.Seq) {
			return api.ErrForm
		}
		behind = n.Client
	}
	return api.OK
}

// Raise is l where the client's end has that Seq at least.
func Raise(l []api.End, client, seq int) ([]api.End, api.Errno) {
	switch {
	case CheckEnds(l) != api.OK:
		return nil, api.ErrForm
	case !isNumber(client, seq):
		return nil, api.ErrArg
	}
	return raised(l, api.End{Client: client, Seq: seq}), api.OK
}

// Past tells whether the client's end has that Seq, or a greater one; false if
// there is none, or l are no ends.
func Past(l []api.End, client, seq int) bool {
	if CheckEnds(l) != api.OK {
		return false
	}
	at, is := endOf(l, client)
	return is && l[at].Seq >= seq
}

// Join is the ends of both: of a client in both the greater one.
func Join(a, b []api.End) ([]api.End, api.Errno) {
	if CheckEnds(a) != api.OK || CheckEnds(b) != api.OK {
		return nil, api.ErrForm
	}
	both := slices.Clone(a)
	for _, n := range b {
		both = raised(both, n)
	}
	return both, api.OK
}

// raised is a copy of the ends l where the end of n's client is n, if it was a lower
// one or none.
func raised(l []api.End, n api.End) []api.End {
	c := slices.Clone(l)
	at, is := endOf(c, n.Client)
	if !is {
		return slices.Insert(c, at, n)
	}
	c[at].Seq = max(c[at].Seq, n.Seq)
	return c
}

// endOf is where the client's end is in the ends l, and true; where it would be, and
// false, if there is none.
func endOf(l []api.End, client int) (int, bool) {
	return slices.BinarySearchFunc(l, client, func(n api.End, client int) int {
		return cmp.Compare(n.Client, client)
	})
}
