package account

import (
	"cmp"
	"slices"

	"purse/api"
	"purse/num"
)

// place is where the node is in l, and true; where it would be, and false, if it
// holds nothing.
func place(l []api.Holder, node int) (int, bool) {
	return slices.BinarySearchFunc(l, node, func(h api.Holder, node int) int {
		return cmp.Compare(h.Node, node)
	})
}

// with is a copy of l where h stands in the place of its node's holder.
func with(l []api.Holder, h api.Holder) []api.Holder {
	c := slices.Clone(l)
	at, is := place(c, h.Node)
	if !is {
		return slices.Insert(c, at, h)
	}
	c[at] = h
	return c
}

// without is a copy of l without the holder at this place.
func without(l []api.Holder, at int) []api.Holder {
	return slices.Concat(l[:at], l[at+1:])
}

// own is a with a copy of its holders.
func own(a api.Account) api.Account {
	a.Holders = slices.Clone(a.Holders)
	return a
}

// more is what is lent already, and one share of the room beside it, as far as an
// int goes. The nodes have a share each, and one is lent to nobody.
func more(lent int, room uint64, nodes int) int {
	share := num.Fit(num.Share(room, nodes+1, nodes))
	// Neither is below 0, so their sum is a uint64 though it may be no int.
	return num.Fit(uint64(lent) + uint64(share))
}
