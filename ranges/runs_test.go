package ranges

import (
	"fmt"
	"math/rand"
	"slices"
	"strings"
	"testing"

	"purse/api"
)

// someKey is one of few keys, a From of l, one just beside that, or any bytes.
func someKey(r *rand.Rand, l []api.Place) string {
	near := ""
	if len(l) > 0 {
		near = l[r.Intn(len(l))].From
	}
	switch r.Intn(6) {
	case 0:
		return near
	case 1:
		return near + "\x00"
	case 2:
		if near != "" {
			return near[:len(near)-1] + string([]byte{near[len(near)-1] - 1, 255})
		}
	case 3:
		b := make([]byte, r.Intn(19))
		for i := range b {
			b[i] = byte(r.Intn(256))
		}
		return string(b)
	}
	return rising[r.Intn(len(rising))]
}

// someInt is an int about near, about an edge, or any.
func someInt(r *rand.Rand, near int) int {
	switch r.Intn(5) {
	case 0:
		return edges[r.Intn(len(edges))]
	case 1:
		return int(r.Uint64())
	}
	return near + r.Intn(5) - 2
}

// someEpoch is a number that an Epoch may be, rarely the greatest one.
func someEpoch(r *rand.Rand) int {
	switch r.Intn(40) {
	case 0:
		return most
	case 1:
		return most - 1
	}
	return 1 + r.Intn(9)
}

// someMap is a map of 1 to 7 places.
func someMap(r *rand.Rand) []api.Place {
	froms := map[string]int{"": 1}
	for range r.Intn(9) {
		if key := someKey(r, nil); len(key) <= 16 && len(froms) < 7 {
			froms[key] = 1
		}
	}
	var sorted []string
	for from := range froms {
		sorted = append(sorted, from)
	}
	slices.SortFunc(sorted, func(a, b string) int {
		if below(a, b) {
			return -1
		}
		return 1
	})
	var l []api.Place
	for i, group := range r.Perm(7)[:len(sorted)] {
		l = append(l, put(group+1, sorted[i], someEpoch(r)))
	}
	return l
}

// someList is mostly a map, and else a list with one thing that may not be, or that
// may be by chance.
func someList(r *rand.Rand) []api.Place {
	l := someMap(r)
	if r.Intn(5) > 0 {
		return l
	}
	i, other := r.Intn(len(l)), r.Intn(len(l))
	switch r.Intn(7) {
	case 0:
		l[i].Group = someInt(r, l[i].Group)
	case 1:
		l[i].From = someKey(r, l)
	case 2:
		l[i].Epoch = someInt(r, l[i].Epoch)
	case 3:
		l = slices.Insert(l, i, l[i])
	case 4:
		l[i], l[other] = l[other], l[i]
	case 5:
		l[i].Group = l[other].Group
	case 6:
		l = slices.Delete(l, 0, 1+i)
	}
	return l
}

// asked asks one thing, and tells which, and what came of it.
func asked(t *testing.T, r *rand.Rand, l []api.Place) string {
	is := checks(t, l)
	key, group, i := someKey(r, l), 1+r.Intn(7), r.Intn(len(l)+1)-r.Intn(2)
	if r.Intn(5) == 0 {
		group, i = someInt(r, group), someInt(r, i)
	}
	switch n := r.Intn(8); {
	case n < 4:
		_, e := splits(t, l, key, group)
		return fmt.Sprintf("Split %d", e)
	case n < 6:
		_, e := merges(t, l, i)
		return fmt.Sprintf("Merge %d", e)
	case is:
		numbers(t, l)
		for _, a := range l {
			for _, b := range l {
				if is, want := Within(a.From, b.From, key), !below(key, a.From) && (below(key, b.From) || b.From == ""); is != want {
					t.Errorf("Within(%q, %q, %q): %v", a.From, b.From, key, is)
				}
			}
		}
		return fmt.Sprintf("Find %d", finds(t, l, key))
	}
	ends(l, key, group)
	ends(l, key, i)
	return "no map"
}

// Whatever lists and arguments: each call answers as the chapter's words say.
func TestP17RunsAgainstPlainWords(t *testing.T) {
	met := map[string]int{}
	for seed := range 60000 {
		r := rand.New(rand.NewSource(int64(seed)))
		for range 4 {
			met[asked(t, r, someList(r))]++
		}
		if t.Failed() {
			t.Fatalf("run %d", seed)
		}
	}
	for _, what := range []string{"Split 0", "Split 1", "Split 21", "Split 170", "Split 171", "Merge 0", "Merge 21", "Merge 170", "Find 0", "Find 1", "Find 2", "Find 3", "Find 6", "no map"} {
		if met[what] < 200 {
			t.Errorf("just %d times %q: the runs don't go along the edges: %v", met[what], what, met)
		}
	}
}

// owners is the groups that have keys, one by one: a map without ranges.
type owners map[string]int

// split gives all keys of one group that are not below key to another one.
func (o owners) split(key string, from, to int) {
	for k, group := range o {
		if group == from && !below(k, key) {
			o[k] = to
		}
	}
}

// merge gives all keys of one group to another one.
func (o owners) merge(from, to int) {
	for k, group := range o {
		if group == from {
			o[k] = to
		}
	}
}

// agrees fails, if l does not tell of each key the group that has it by o.
func (o owners) agrees(t *testing.T, l []api.Place) {
	t.Helper()
	for k, group := range o {
		if i := finds(t, l, k); l[i].Group != group {
			t.Fatalf("%s: the key %q is of the group %d; want %d", text(l), k, l[i].Group, group)
		}
	}
}

// someOwners is texts that all are the group's: those of rising, and texts beside
// the keys.
func someOwners(keys []string, group int) owners {
	o := owners{}
	for _, k := range append(slices.Clone(rising), keys...) {
		for _, key := range []string{k, k + "\x00", k + "\xff", strings.Repeat(k, 3)} {
			o[key] = group
		}
		if k != "" {
			o[k[:len(k)-1]] = group
			o[k[:len(k)-1]+string([]byte{k[len(k)-1] - 1})] = group
		}
	}
	return o
}

// stays fails, if a place of l that no change has touched is not as it was in k, or
// if another one has not an Epoch above all that were; changed are the places of
// l that were touched.
func stays(t *testing.T, k, l []api.Place, changed ...int) {
	t.Helper()
	for i, p := range l {
		if slices.Contains(changed, i) {
			if p.Epoch != plainEpoch(k)+1 {
				t.Errorf("%s behind %s: the place %d was touched", text(l), text(k), i)
			}
			continue
		}
		if at, is := Of(k, p.Group); !is || k[at] != p || End(k, at) != End(l, i) {
			t.Errorf("%s behind %s: the place %d was not touched", text(l), text(k), i)
		}
	}
}

// back fails, if a Merge behind the Split of a place has not the ranges of before.
func back(t *testing.T, k, l []api.Place, i int) {
	t.Helper()
	m, e := Merge(l, i)
	if plainEpoch(l) == most {
		if e != api.ErrPlace {
			t.Errorf("Merge behind a Split to the greatest Epoch: error %d", e)
		}
		return
	}
	if e != api.OK || kept(m) != kept(k) {
		t.Errorf("%s, split to %s, and merged: %s, error %d", text(k), text(l), text(m), e)
	}
	stays(t, l, m, i)
}

// changed makes one change of l, if it may be, in l and in o, and tells which. One
// of so many is a Merge.
func changed(t *testing.T, r *rand.Rand, l []api.Place, o owners, many int) ([]api.Place, string) {
	if r.Intn(many) == 0 {
		i := r.Intn(len(l))
		k, e := merges(t, l, i)
		if e != api.OK {
			return l, fmt.Sprintf("Merge %d", e)
		}
		o.merge(l[i+1].Group, l[i].Group)
		stays(t, l, k, i)
		return k, fmt.Sprintf("Merge to %d", len(k))
	}
	key, group := someKey(r, l), 1+r.Intn(7)
	for range r.Intn(5) {
		if _, has := Of(l, group); has {
			group = 1 + r.Intn(7)
		}
	}
	k, e := splits(t, l, key, group)
	if e != api.OK {
		return l, fmt.Sprintf("Split %d", e)
	}
	i := Find(l, key)
	o.split(key, l[i].Group, group)
	stays(t, l, k, i, i+1)
	back(t, l, k, i)
	return k, fmt.Sprintf("Split to %d", len(k))
}

// Over long runs each key is had by one place, whose From and End it is Within, and
// is of that group that a map without ranges tells; what was not touched stays.
func TestFollowsLongRuns(t *testing.T) {
	met := map[string]int{}
	for seed := range 200 {
		r := rand.New(rand.NewSource(int64(seed)))
		group := 1 + r.Intn(7)
		l, o := list(at(group, "")), someOwners([]string{someKey(r, nil), someKey(r, nil)}, group)
		if seed%3 == 0 {
			l[0].Epoch = most - 40
		}
		for range 150 {
			var what string
			l, what = changed(t, r, l, o, 2+seed%4)
			met[what]++
			o.agrees(t, l)
			numbers(t, l)
			if !checks(t, l) || t.Failed() {
				t.Fatalf("run %d: %s", seed, text(l))
			}
		}
	}
	for _, what := range []string{"Split 1", "Split 170", "Split 171", "Split to 2", "Split to 4", "Split to 7", "Merge 170", "Merge to 1", "Merge to 3", "Merge to 6"} {
		if met[what] < 200 {
			t.Errorf("just %d times %q: the runs don't go along the edges: %v", met[what], what, met)
		}
	}
}

// Each way that seven changes may take, of four keys and four groups: what follows
// holds at each of them.
func TestFollowsEachOfSmallOnes(t *testing.T) {
	seen := map[string]struct{}{}
	keys := []string{"", "\x00", "a", "a\x00", "b", "c", "z"}
	var each func(l []api.Place, owned []int, left int)
	each = func(l []api.Place, owned []int, left int) {
		if _, is := seen[fmt.Sprint(text(l), left)]; is || t.Failed() {
			return
		}
		seen[fmt.Sprint(text(l), left)] = struct{}{}
		for i, key := range keys {
			if at := finds(t, l, key); l[at].Group != owned[i] {
				t.Errorf("%s: the key %q is of the group %d; want %d", text(l), key, l[at].Group, owned[i])
			}
		}
		numbers(t, l)
		if left == 0 {
			return
		}
		for i := -1; i <= len(l); i++ {
			k, e := merges(t, l, i)
			if e != api.OK {
				continue
			}
			stays(t, l, k, i)
			own := slices.Clone(owned)
			for n := range own {
				if own[n] == l[i+1].Group {
					own[n] = l[i].Group
				}
			}
			each(k, own, left-1)
		}
		for _, key := range keys[2:6] {
			for group := 1; group <= 4; group++ {
				k, e := splits(t, l, key, group)
				if e != api.OK {
					continue
				}
				i := Find(l, key)
				stays(t, l, k, i, i+1)
				back(t, l, k, i)
				own := slices.Clone(owned)
				for n := range own {
					if own[n] == l[i].Group && !below(keys[n], key) {
						own[n] = group
					}
				}
				each(k, own, left-1)
			}
		}
	}
	each(list(at(2, "")), []int{2, 2, 2, 2, 2, 2, 2}, 7)
	if len(seen) < 4000 {
		t.Errorf("just %d maps", len(seen))
	}
}

// Each map of few Froms, groups and Epochs: each change of it, with arguments that
// may be, and that may not.
func TestP17EachOfSmallMaps(t *testing.T) {
	froms, epochs := []string{"a", "b", "ba"}, []int{1, 2, most}
	var each func(l []api.Place, next int)
	each = func(l []api.Place, next int) {
		for _, key := range []string{"", "\x00", "a", "a\x00", "b", "ba", "c", strings.Repeat("b", 17)} {
			for group := -1; group <= 8; group++ {
				splits(t, l, key, group)
			}
			if checks(t, l) {
				finds(t, l, key)
			}
		}
		for i := -1; i <= len(l); i++ {
			merges(t, l, i)
		}
		for at := next; at < len(froms); at++ {
			for _, group := range []int{1, 2, 7} {
				for _, epoch := range epochs {
					each(append(slices.Clone(l), put(group, froms[at], epoch)), at+1)
				}
			}
		}
	}
	for _, group := range []int{1, 2, 7} {
		for _, epoch := range epochs {
			each(list(put(group, "", epoch)), 0)
		}
	}
}

// The same calls answer the same, also of what is no map.
func TestR2Again(t *testing.T) {
	for seed := range 5000 {
		r := rand.New(rand.NewSource(int64(seed)))
		l := someList(r)
		key, n := someKey(r, l), someInt(r, 3)
		all := func() string {
			a, e := Split(l, key, n)
			b, f := Merge(l, n)
			at, is := Of(l, n)
			return fmt.Sprint(text(a), e, text(b), f, at, is, Check(l), Find(l, key), End(l, n), Epoch(l), text(gone(l)))
		}
		if first, second := all(), all(); first != second {
			t.Fatalf("run %d: %s, and then %s", seed, first, second)
		}
	}
}
