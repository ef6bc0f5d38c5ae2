package ranges

import (
	"iter"
	"slices"

	"purse/api"
)

// mayStand tells whether p may stand in a map, by itself.
func mayStand(p api.Place) bool {
	return isGroup(p.Group) && len(p.From) <= api.MaxKey && p.Epoch >= 1 && p.Epoch <= last
}

// isGroup tells whether there is such a group of a shard.
func isGroup(group int) bool {
	return group >= 1 && group < api.MaxGroups
}

// isKey tells whether a place behind the first one may begin with key.
func isKey(key string) bool {
	return len(key) >= 1 && len(key) <= api.MaxKey
}

// told is All of an l that nobody changes while it is gone through.
func told(l []api.Place) iter.Seq2[string, api.Place] {
	return func(yield func(string, api.Place) bool) {
		for i, p := range l {
			if !yield(End(l, i), p) {
				return
			}
		}
	}
}

// touched is a copy of the map l where the place number at has an Epoch above all
// others.
func touched(l []api.Place, at int) []api.Place {
	c := slices.Clone(l)
	c[at].Epoch = Epoch(l) + 1
	return c
}
