package deal

import (
	"slices"

	"purse/api"
)

// last is the greatest number that a transfer of a client may have.
const last = 1 << 62

// What a side has said.
const (
	silent = iota
	saidYes
	saidNo
)

// found is where the client's deal seq is in l; ErrForm if l are no books, ErrNone
// if there is no such deal.
func found(l []api.Deal, client, seq int) (int, api.Errno) {
	if Check(l) != api.OK {
		return 0, api.ErrForm
	}
	at := place(l, client, seq)
	if at < 0 {
		return 0, api.ErrNone
	}
	return at, api.OK
}

// place is where the client's deal seq is in l; below 0 if there is none.
func place(l []api.Deal, client, seq int) int {
	return slices.IndexFunc(l, func(d api.Deal) bool {
		return d.Client == client && d.Seq == seq
	})
}

// say has the side say yes, or no, if it has said nothing: what it has said stands.
func say(side *int, yes bool) {
	switch {
	case *side != silent:
	case yes:
		*side = saidYes
	default:
		*side = saidNo
	}
}

// fate is what both sides make of d, if nobody gives it up.
func fate(d api.Deal) int {
	switch {
	case d.Mine == saidNo || d.Theirs == saidNo:
		return api.Aborted
	case d.Mine == saidYes && d.Theirs == saidYes:
		return api.Committed
	}
	return api.Undecided
}

// mayStand tells whether d may stand in books, by itself.
func mayStand(d api.Deal) bool {
	if !isNumber(d.Client, d.Seq) || !isKey(d.Key) || !isKey(d.Other) || d.Key == d.Other || d.N < 1 {
		return false
	}
	return isWord(d.Mine) && isWord(d.Theirs) && hasFate(d)
}

// hasFate tells whether d's fate is right: that of its sides, or, if they leave it
// open, Aborted, as it was given up.
func hasFate(d api.Deal) bool {
	f := fate(d)
	return d.Fate == f || f == api.Undecided && d.Fate == api.Aborted
}

// isNumber tells whether the client may have a transfer seq.
func isNumber(client, seq int) bool {
	return client >= 1 && client <= api.MaxClients && seq >= 1 && seq <= last
}

// isKey tells whether key may be that of a counter.
func isKey(key string) bool {
	return len(key) >= 1 && len(key) <= api.MaxKey
}

// isWord tells whether a side may have said that.
func isWord(said int) bool {
	return said >= silent && said <= saidNo
}
