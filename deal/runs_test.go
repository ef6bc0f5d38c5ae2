package deal

import (
	"fmt"
	"math/rand"
	"slices"
	"strings"
	"testing"

	"purse/api"
)

// keys are texts of 1 to 16 bytes, some of them near each other.
var keys = []string{"a", "b", "a\x00", "\x00", "\xff", "é", "abcdefghijklmnop", "abcdefghijklmnoq"}

// someInt is an int about near, about an edge, or any.
func someInt(r *rand.Rand, near int) int {
	switch r.Intn(5) {
	case 0:
		return edges[r.Intn(len(edges))]
	case 1:
		return int(r.Uint64())
	}
	return near + r.Intn(5) - 2
}

// someDeal is a deal that may be.
func someDeal(r *rand.Rand, client, seq int) api.Deal {
	s := states[r.Intn(len(states))]
	two := r.Perm(len(keys))
	return api.Deal{Client: client, Seq: seq, Key: keys[two[0]], Other: keys[two[1]], N: 1 + r.Intn(9), Mine: s[0], Theirs: s[1], Fate: s[2]}
}

// someBooks are books of few clients, with Seqs about near.
func someBooks(r *rand.Rand, near int) []api.Deal {
	var l []api.Deal
	for range r.Intn(6) {
		client, seq := 1+r.Intn(3), min(max(near+r.Intn(4)-2, 1), most)
		if _, is := plainFind(l, client, seq); !is && len(l) < 4 {
			l = append(l, someDeal(r, client, seq))
		}
	}
	return l
}

// harmed is d with one thing otherwise that may not be, or that may be by chance.
func harmed(r *rand.Rand, d api.Deal) api.Deal {
	switch r.Intn(8) {
	case 0:
		d.Client = someInt(r, d.Client)
	case 1:
		d.Seq = someInt(r, d.Seq)
	case 2:
		d.Key = strings.Repeat("k", r.Intn(19))
	case 3:
		d.Other = []string{"", d.Key, strings.Repeat("o", 17)}[r.Intn(3)]
	case 4:
		d.N = someInt(r, 0)
	case 5:
		d.Mine = someInt(r, d.Mine)
	case 6:
		d.Theirs = someInt(r, d.Theirs)
	case 7:
		d.Fate = someInt(r, d.Fate)
	}
	return d
}

// someList are mostly books, and else a list with one thing that may not be, or that
// may be by chance.
func someList(r *rand.Rand, near int) []api.Deal {
	l := someBooks(r, near)
	if len(l) == 0 || r.Intn(5) > 0 {
		return l
	}
	i, other := r.Intn(len(l)), r.Intn(len(l))
	switch r.Intn(4) {
	case 0:
		l = slices.Insert(l, other, someDeal(r, l[i].Client, l[i].Seq))
	case 1:
		l = append(l, someDeal(r, 7, 1), someDeal(r, 7, 2), someDeal(r, 7, 3))
	default:
		l[i] = harmed(r, l[i])
	}
	return l
}

// someNumbers are a client and a number: those of a deal, or others that may or may
// not be.
func someNumbers(r *rand.Rand, l []api.Deal, near int) (client, seq int) {
	if len(l) > 0 && r.Intn(3) > 0 {
		d := l[r.Intn(len(l))]
		return d.Client, d.Seq
	}
	if r.Intn(2) == 0 {
		return someInt(r, 2), someInt(r, near)
	}
	return 1 + r.Intn(4), min(max(near+r.Intn(5)-2, 1), most)
}

// asked asks one thing, and tells which, and what came of it.
func asked(t *testing.T, r *rand.Rand, l []api.Deal, near int) string {
	client, seq := someNumbers(r, l, near)
	switch r.Intn(8) {
	case 0:
		return fmt.Sprint("Check ", checks(t, l))
	case 1:
		return fmt.Sprint("Find ", finds(t, l, client, seq))
	case 2, 3:
		d := someDeal(r, client, seq)
		if r.Intn(4) > 0 {
			d = state(d, 0, 0, 0)
		}
		if r.Intn(8) == 0 {
			d = harmed(r, d)
		}
		return fmt.Sprintf("Open %d", opens(t, l, d).e)
	case 4, 5:
		w := says(t, l, client, seq, r.Intn(2) == 0, r.Intn(2) == 0)
		return fmt.Sprintf("Say %d %v", w.e, w.now)
	case 6:
		w := gives(t, l, client, seq)
		return fmt.Sprintf("Give %d %v", w.e, w.now)
	}
	return fmt.Sprintf("Forget %d", forgets(t, l, client, seq).e)
}

// often fails, if something was met too rarely.
func often(t *testing.T, met map[string]int, least int, all ...string) {
	t.Helper()
	for _, what := range all {
		if met[what] < least {
			t.Errorf("just %d times %q: the runs don't go along the edges: %v", met[what], what, met)
		}
	}
}

// Whatever lists and arguments: each call answers as the chapter's words say.
func TestP18RunsAgainstPlainWords(t *testing.T) {
	met := map[string]int{}
	for seed := range 40000 {
		r := rand.New(rand.NewSource(int64(seed)))
		near := []int{1, 2, 3, 1000, 1 << 33, most - 1, most}[r.Intn(7)]
		l := someList(r, near)
		was := text(l)
		for range 4 {
			met[asked(t, r, l, near)]++
		}
		if text(l) != was || t.Failed() {
			t.Fatalf("run %d: %s is %s", seed, was, text(l))
		}
	}
	often(t, met, 200, "Check true", "Check false", "Find true", "Find false", "Open 0", "Open 1", "Open 3", "Open 21", "Open 171", "Say 0 true", "Say 0 false", "Say 21 false", "Say 60 false", "Give 0 true", "Give 0 false", "Give 21 false", "Give 60 false", "Forget 0", "Forget 21", "Forget 60")
}

// A story is all that was done with a deal since it was opened, as it was done: what
// each side said first, and when; when it was given up.
type story struct {
	yes    [2]bool
	when   [2]int
	given  int
	fate   int
	behind int
}

// tell is the fate that a story asks for: what came first decides. (A moment 0 is
// none.)
func (s *story) tell() int {
	first, fate := top, api.Undecided
	if s.given > 0 {
		first, fate = s.given, api.Aborted
	}
	for side, yes := range s.yes {
		if at := s.when[side]; at > 0 && !yes && at < first {
			first, fate = at, api.Aborted
		}
	}
	if both := max(s.when[0], s.when[1]); s.when[0] > 0 && s.when[1] > 0 && s.yes[0] && s.yes[1] && both < first {
		fate = api.Committed
	}
	return fate
}

// A shelf is books, and the story of each deal in them.
type shelf struct {
	l       []api.Deal
	stories map[[2]int]*story
	moment  int
}

// step does one thing with a shelf, and tells which, and what came of it. It fails,
// if Say or Give tell of a decision that is none, or of none.
func (s *shelf) step(t *testing.T, r *rand.Rand) string {
	client, seq := 1+r.Intn(2), 1+r.Intn(3)
	about := s.stories[[2]int{client, seq}]
	s.moment++
	switch r.Intn(6) {
	case 0:
		k, e := Open(s.l, of(client, seq))
		if e == api.OK {
			s.l, s.stories[[2]int{client, seq}] = k, &story{}
		}
		return fmt.Sprint("Open ", e)
	case 1:
		k, e := Forget(s.l, client, seq)
		if e == api.OK {
			if about.fate == api.Undecided {
				t.Fatalf("%s: %d:%d is forgotten undecided", text(s.l), client, seq)
			}
			s.l = k
			delete(s.stories, [2]int{client, seq})
		}
		return fmt.Sprint("Forget ", e)
	case 2:
		k, now, e := Give(s.l, client, seq)
		if e == api.OK {
			if about.given == 0 {
				about.given = s.moment
			}
			s.decides(t, about, now)
			s.l = k
		}
		return fmt.Sprint("Give ", e, " ", now)
	}
	mine, yes := r.Intn(2) == 0, r.Intn(3) > 0
	k, now, e := Say(s.l, client, seq, mine, yes)
	if e == api.OK {
		side := 0
		if mine {
			side = 1
		}
		if about.when[side] == 0 {
			about.when[side], about.yes[side] = s.moment, yes
		}
		s.decides(t, about, now)
		s.l = k
	}
	return fmt.Sprint("Say ", e, " ", now)
}

// decides fails, if now is not whether the story is decided just now; twice, it
// never is.
func (s *shelf) decides(t *testing.T, about *story, now bool) {
	t.Helper()
	fate := about.tell()
	if is := about.fate == api.Undecided && fate != api.Undecided; is != now {
		t.Fatalf("%s: the fate %d, and then %d; decided by this? %v", text(s.l), about.fate, fate, now)
	}
	if about.fate != api.Undecided && fate != about.fate {
		t.Fatalf("the story's fate was %d, and is %d", about.fate, fate)
	}
	about.fate = fate
}

// holds fails, if the books are none, or do not tell of each story its fate. It
// counts the fates.
func (s *shelf) holds(t *testing.T, met map[string]int) {
	t.Helper()
	if Check(s.l) != api.OK || len(s.l) != len(s.stories) {
		t.Fatalf("%s: error %d, and %d stories", text(s.l), Check(s.l), len(s.stories))
	}
	for number, about := range s.stories {
		d, is := Find(s.l, number[0], number[1])
		if !is || d.Fate != about.fate {
			t.Fatalf("%s: %v is %v, %s; want the fate %d", text(s.l), number, is, line(d), about.fate)
		}
		if about.fate != api.Undecided {
			about.behind++
		}
		if about.behind == 5 {
			met[fmt.Sprint("fate ", d.Fate)]++
		}
	}
}

// Over long runs a deal is decided at most once and stays so, and is Committed just
// if both sides said yes ahead of its being given up.
func TestFollowsDecidedOnce(t *testing.T) {
	met := map[string]int{}
	for seed := range 200 {
		r := rand.New(rand.NewSource(int64(seed)))
		s := &shelf{stories: map[[2]int]*story{}}
		for range 1000 {
			met[s.step(t, r)]++
			s.holds(t, met)
		}
	}
	often(t, met, 500, "Open 0", "Open 3", "Open 171", "Say 0 true", "Say 0 false", "Say 60 false", "Give 0 true", "Give 0 false", "Give 60 false", "Forget 0", "Forget 60", "fate 1", "fate 2")
}

// Each way that six words of both sides and gifts may take with one deal, beside one
// that nobody speaks of.
func TestFollowsEachOfSmallOnes(t *testing.T) {
	quiet := put(1, 2, 0, 1, 0)
	tried, fates := 0, [3]int{}
	var each func(s shelf, about story)
	each = func(s shelf, about story) {
		d, is := Find(s.l, 1, 1)
		if o, has := Find(s.l, 1, 2); !is || d.Fate != about.fate || !has || o != quiet {
			t.Fatalf("%s; want the fate %d", text(s.l), about.fate)
		}
		tried++
		fates[d.Fate]++
		if s.moment == 6 {
			return
		}
		for side := range 2 {
			for _, yes := range []bool{true, false} {
				k, now, e := Say(s.l, 1, 1, side == 1, yes)
				if e != api.OK {
					t.Fatalf("%s: error %d", text(s.l), e)
				}
				next, then := shelf{l: k, moment: s.moment + 1}, about
				if then.when[side] == 0 {
					then.when[side], then.yes[side] = next.moment, yes
				}
				next.decides(t, &then, now)
				each(next, then)
			}
		}
		k, now, e := Give(s.l, 1, 1)
		if e != api.OK {
			t.Fatalf("%s: error %d", text(s.l), e)
		}
		next, then := shelf{l: k, moment: s.moment + 1}, about
		if then.given == 0 {
			then.given = next.moment
		}
		next.decides(t, &then, now)
		each(next, then)
	}
	each(shelf{l: list(of(1, 1), quiet)}, story{})
	if tried != 1+5+25+125+625+3125+15625 || fates[0] < 100 || fates[1] < 1000 || fates[2] < 1000 {
		t.Errorf("%d ways, fates %v", tried, fates)
	}
}

// someEnds are ends with Seqs about near.
func someEnds(r *rand.Rand, near int) []api.End {
	var l []api.End
	for client := 1; client <= 8; client++ {
		if r.Intn(2) == 0 {
			l = append(l, end(client, min(max(near+r.Intn(5)-2, 1), most)))
		}
	}
	return l
}

// someEndList are mostly ends, and else a list with one thing that may not be, or
// that may be by chance.
func someEndList(r *rand.Rand, near int) []api.End {
	l := someEnds(r, near)
	if len(l) == 0 || r.Intn(5) > 0 {
		return l
	}
	i, other := r.Intn(len(l)), r.Intn(len(l))
	switch r.Intn(4) {
	case 0:
		l[i].Client = someInt(r, l[i].Client)
	case 1:
		l[i].Seq = someInt(r, l[i].Seq)
	case 2:
		l[i].Client = l[other].Client
	case 3:
		l[i], l[other] = l[other], l[i]
	}
	return l
}

func TestP18EndsRunsAgainstPlainWords(t *testing.T) {
	met := map[string]int{}
	for seed := range 40000 {
		r := rand.New(rand.NewSource(int64(seed)))
		near := []int{1, 2, 3, 1000, 1 << 33, most - 1, most}[r.Intn(7)]
		a, b := someEndList(r, near), someEndList(r, near)
		was, were := endText(a), endText(b)
		client, seq := 1+r.Intn(8), min(max(near+r.Intn(5)-2, 1), most)
		if r.Intn(4) == 0 {
			client, seq = someInt(r, client), someInt(r, near)
		}
		_, e := raises(t, a, client, seq)
		_, f := joins(t, a, b)
		met[fmt.Sprint("Raise ", e)]++
		met[fmt.Sprint("Join ", f)]++
		met[fmt.Sprint("Past ", pasts(t, a, client, seq))]++
		met[fmt.Sprint("CheckEnds ", checksEnds(t, a))]++
		if endText(a) != was || endText(b) != were || t.Failed() {
			t.Fatalf("run %d: %s and %s are %s and %s", seed, was, were, endText(a), endText(b))
		}
	}
	often(t, met, 200, "Raise 0", "Raise 1", "Raise 21", "Join 0", "Join 21", "Past true", "Past false", "CheckEnds true", "CheckEnds false")
}

// Over long runs of Raise and Join of a few ends no end falls, and each is the
// greatest one that ever came there.
func TestFollowsEndsNeverFall(t *testing.T) {
	met := map[string]int{}
	for seed := range 100 {
		r := rand.New(rand.NewSource(int64(seed)))
		all, highs := make([][]api.End, 4), []high{{}, {}, {}, {}}
		near := []int{1, 2, 1000, most - 50, most}[seed%5]
		for range 400 {
			i, other := r.Intn(4), r.Intn(4)
			was := all[i]
			client, seq := 1+r.Intn(8), min(max(near+r.Intn(100)-50, 1), most)
			switch r.Intn(3) {
			case 0:
				all[i], _ = joins(t, all[i], all[other])
				for client, seq := range highs[other] {
					highs[i].raise(client, seq)
				}
				met["Join"]++
			default:
				all[i], _ = raises(t, all[i], client, seq)
				highs[i].raise(client, seq)
				met["Raise"]++
			}
			if !slices.Equal(all[i], highs[i].list()) {
				t.Fatalf("run %d: %s; want %s", seed, endText(all[i]), endText(highs[i].list()))
			}
			for _, n := range was {
				if !Past(all[i], n.Client, n.Seq) {
					t.Fatalf("run %d: the end of %d fell: %s, and then %s", seed, n.Client, endText(was), endText(all[i]))
				}
			}
			if n := len(all[i]); n == 8 {
				met["all clients"]++
			}
			if t.Failed() {
				t.Fatalf("run %d", seed)
			}
		}
	}
	often(t, met, 2000, "Raise", "Join", "all clients")
}

// joined is the Join of ends, of the first two first.
func joined(t *testing.T, l ...[]api.End) []api.End {
	t.Helper()
	all := l[0]
	for _, k := range l[1:] {
		next, e := Join(all, k)
		if e != api.OK {
			t.Fatalf("Join(%s, %s): error %d", endText(all), endText(k), e)
		}
		all = next
	}
	return all
}

// laws fails, if Join of three is not the same turned round, grouped otherwise, and
// twice.
func laws(t *testing.T, x, y, z []api.End) {
	t.Helper()
	two := joined(t, x, y)
	if turned := joined(t, y, x); !slices.Equal(turned, two) {
		t.Fatalf("%s, %s: %s, and turned round %s", endText(x), endText(y), endText(two), endText(turned))
	}
	if l, k := joined(t, two, z), joined(t, x, joined(t, y, z)); !slices.Equal(l, k) {
		t.Fatalf("%s, %s, %s: %s, and grouped otherwise %s", endText(x), endText(y), endText(z), endText(l), endText(k))
	}
	for _, again := range [][]api.End{joined(t, two, y), joined(t, two, x), joined(t, x, two), joined(t, y, two), joined(t, two, two)} {
		if !slices.Equal(again, two) {
			t.Fatalf("%s, %s: %s, and once more %s", endText(x), endText(y), endText(two), endText(again))
		}
	}
}

// Each three ends of three clients that have none, a low one or a high one.
func TestFollowsJoinLawsOfSmallOnes(t *testing.T) {
	var all [][]api.End
	for n := range 27 {
		var l []api.End
		for i, client := range []int{1, 5, 8} {
			if seq := n / []int{1, 3, 9}[i] % 3; seq > 0 {
				l = append(l, end(client, seq))
			}
		}
		all = append(all, l)
	}
	for _, x := range all {
		for _, y := range all {
			for _, z := range all {
				laws(t, x, y, z)
			}
		}
	}
}

func TestFollowsJoinLawsOfRuns(t *testing.T) {
	for seed := range 20000 {
		r := rand.New(rand.NewSource(int64(seed)))
		near := []int{1, 2, 5, 1 << 40, most - 1, most}[r.Intn(6)]
		laws(t, someEnds(r, near), someEnds(r, near), someEnds(r, near))
	}
	for seed := range 300 {
		r := rand.New(rand.NewSource(int64(seed)))
		l := make([][]api.End, 5)
		for i := range l {
			l[i] = someEnds(r, 3)
		}
		want := joined(t, l...)
		for range 6 {
			r.Shuffle(len(l), func(i, j int) { l[i], l[j] = l[j], l[i] })
			if got := joined(t, l...); !slices.Equal(got, want) {
				t.Fatalf("seed %d: %s; want %s", seed, endText(got), endText(want))
			}
		}
	}
}

// The same calls answer the same, also of what are no books and no ends.
func TestR2Again(t *testing.T) {
	for seed := range 3000 {
		r := rand.New(rand.NewSource(int64(seed)))
		l, a, b := someList(r, 3), someEndList(r, 3), someEndList(r, 3)
		client, seq := someNumbers(r, l, 3)
		ask := func(l []api.Deal, a, b []api.End) string {
			var out []string
			add := func(l []api.Deal, now bool, e api.Errno) { out = append(out, fmt.Sprint(text(l), now, e)) }
			add(Say(l, client, seq, true, true))
			add(Say(l, client, seq, false, false))
			add(Give(l, client, seq))
			k, e := Forget(l, client, seq)
			add(k, false, e)
			k, e = Open(l, of(client, seq))
			add(k, false, e)
			d, is := Find(l, client, seq)
			add(list(d), is, Check(l))
			n, f := Raise(a, client, seq)
			j, g := Join(a, b)
			return fmt.Sprint(out, endText(n), f, endText(j), g, CheckEnds(a), Past(a, client, seq))
		}
		first := ask(l, a, b)
		if again := ask(append(make([]api.Deal, 0, 9), l...), append(make([]api.End, 0, 9), a...), slices.Clone(b)); again != first {
			t.Fatalf("seed %d: %s, and again %s", seed, first, again)
		}
	}
}
