package ledger

import (
	"cmp"
	"slices"
	"strings"

	"purse/account"
	"purse/api"
	"purse/num"
)

// mayStand tells whether r may stand in a ledger.
func mayStand(r api.Right) bool {
	return isGroup(r.Group) && len(r.Key) >= 1 && len(r.Key) <= api.MaxKey && r.Lease >= 1
}

// isGroup tells whether there is such a group of a shard.
func isGroup(group int) bool {
	return group >= 1 && group < api.MaxGroups
}

// isWrong tells whether a is not right.
func isWrong(a api.Account) bool {
	return account.Check(a) != api.OK
}

// order is below 0 if a stands ahead of b in a ledger, above 0 if it stands
// behind it, 0 if they are of one group and key.
func order(a, b api.Right) int {
	return cmp.Or(cmp.Compare(a.Group, b.Group), strings.Compare(a.Key, b.Key))
}

// place is where the right of r's group and key is in the ledger l, and true;
// where it would be, and false, if there is none.
func place(l []api.Right, r api.Right) (int, bool) {
	return slices.BinarySearchFunc(l, r, order)
}

// with is a copy of the ledger l where r stands in the place of the right of its
// group and key.
func with(l []api.Right, r api.Right) []api.Right {
	c := slices.Clone(l)
	at, is := place(c, r)
	if !is {
		return slices.Insert(c, at, r)
	}
	c[at] = r
	return c
}

// unspent is r with nothing spent. So two rights are of one lease of one group
// and key just if they are the same unspent.
func unspent(r api.Right) api.Right {
	r.Net = 0
	return r
}

// find is the right of the ledger l that is of the lease of fresh, an unspent
// one; fresh itself if there is none.
func find(l []api.Right, fresh api.Right) api.Right {
	if at, is := place(l, fresh); is && unspent(l[at]) == fresh {
		return l[at]
	}
	return fresh
}

// held is the right of the node's lease of a, as its ledger l has it, and what is
// lent by that: else ErrForm, ErrArg or ErrHolder.
func held(l []api.Right, group int, a api.Account, node int) (api.Right, api.Holder, api.Errno) {
	switch {
	case Check(l) != api.OK || isWrong(a):
		return api.Right{}, api.Holder{}, api.ErrForm
	case !isGroup(group):
		return api.Right{}, api.Holder{}, api.ErrArg
	}
	h, is := account.Find(a, node)
	if !is {
		return api.Right{}, api.Holder{}, api.ErrHolder
	}
	return find(l, api.Right{Group: group, Key: a.Key, Lease: h.Lease}), h, api.OK
}

// maySpend tells whether net may be all that was spent of what h holds.
func maySpend(h api.Holder, net int) bool {
	return num.Has(api.Span{Lo: -h.Down, Hi: h.Up}, net)
}

// leases is what of the accounts is lent to the node, as unspent rights of the
// group.
func leases(group int, accounts []api.Account, node int) map[api.Right]struct{} {
	lent := map[api.Right]struct{}{}
	for _, a := range accounts {
		if h, is := account.Find(a, node); is {
			lent[api.Right{Group: group, Key: a.Key, Lease: h.Lease}] = struct{}{}
		}
	}
	return lent
}
