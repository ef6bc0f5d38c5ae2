package account

import (
	"purse/api"
	"purse/num"
)

// isKey tells whether an account may have this key.
func isKey(key string) bool {
	return len(key) >= 1 && len(key) <= api.MaxKey
}

// isNumber tells whether a lease or a round may begin with n.
func isNumber(n int) bool {
	return n >= 1 && n <= last
}

// areHolders tells whether l, by itself, may be an account's holders.
func areHolders(l []api.Holder) bool {
	behind := 0
	for _, h := range l {
		if h.Node <= behind || h.Node > api.MaxNodes || h.Lease < 1 || h.Up < 0 || h.Down < 0 {
			return false
		}
		behind = h.Node
	}
	return true
}

// staysWithin tells whether a's total is within its bounds, whatever the holders
// spend.
func staysWithin(a api.Account) bool {
	r, is := reach(a)
	return is && num.Has(a.Span, r.Lo) && num.Has(a.Span, r.Hi)
}

// reach is from how low to how high a's total may be, as the holders spend; false
// if that goes beyond the ints.
func reach(a api.Account) (api.Span, bool) {
	r := api.Span{Lo: a.Base, Hi: a.Base}
	for _, h := range a.Holders {
		lo, low := num.Sub(r.Lo, h.Down)
		hi, high := num.Add(r.Hi, h.Up)
		// No Up or Down is below 0: a sum that has left the ints does not come back.
		if low != api.OK || high != api.OK {
			return api.Span{}, false
		}
		r = api.Span{Lo: lo, Hi: hi}
	}
	return r, true
}

// lockStands tells whether a is not locked at all, or by what may lock it.
func lockStands(a api.Account) bool {
	if a.Lock == (api.Lock{}) {
		return true
	}
	return mayLock(a.Lock) && len(a.Holders) == 0 && mayMove(a, a.Lock.N)
}

// mayLock tells whether l, by itself, may lock an account.
func mayLock(l api.Lock) bool {
	return l.Client >= 1 && l.Seq >= 1 && l.Home >= 1 && l.Home < api.MaxGroups
}

// mayMove tells whether a's bounds have Base and n together.
func mayMove(a api.Account, n int) bool {
	v, e := num.Add(a.Base, n)
	return e == api.OK && num.Has(a.Span, v)
}

// isLocked tells whether a transfer has locked a.
func isLocked(a api.Account) bool {
	return a.Lock.Client != 0
}

// isKnown tells whether a's total is its Base.
func isKnown(a api.Account) bool {
	return len(a.Holders) == 0 && !isLocked(a)
}
