package session

import (
	"fmt"
	"math/rand"
	"slices"
	"testing"

	"purse/api"
)

// A replica is a table, and of each client the greatest number that has ended in
// it, or in one that was joined with it.
type replica struct {
	marks []api.Mark
	ended [9]int
}

// someMark is a mark that may be, with a Seq about near.
func someMark(r *rand.Rand, client, near int) api.Mark {
	m := api.Mark{Client: client, Seq: min(max(near+r.Intn(5)-2, 0), most)}
	switch {
	case m.Seq > 0 && r.Intn(2) == 0:
		m.Open = true
	case r.Intn(3) == 0:
		m.Answer.Err = 80
	default:
		m.Answer.Value = r.Intn(3)
	}
	return m
}

// someTable is a table that nobody's run has made, with Seqs about near.
func someTable(r *rand.Rand, near int) []api.Mark {
	var l []api.Mark
	for client := 1; client <= 8; client++ {
		if r.Intn(3) > 0 {
			l = append(l, someMark(r, client, near))
		}
	}
	return l
}

// someList is mostly a table, and else one with one thing that may not be.
func someList(r *rand.Rand, near int) []api.Mark {
	l := someTable(r, near)
	if len(l) == 0 || r.Intn(6) > 0 {
		return l
	}
	m := &l[r.Intn(len(l))]
	ends := []int{low, -1, 0, 1, 8, 9, most, most + 1, top}
	switch n := ends[r.Intn(len(ends))]; r.Intn(5) {
	case 0:
		m.Client = n
	case 1:
		m.Seq = n
	case 2:
		m.Open, m.Answer.Least = true, n
	case 3:
		m.Client = l[r.Intn(len(l))].Client
	case 4:
		r.Shuffle(len(l), func(i, j int) { l[i], l[j] = l[j], l[i] })
	}
	return l
}

// someNumbers is a client and a number of an operation: those of a mark, or
// others that may or may not be.
func someNumbers(r *rand.Rand, l []api.Mark, near int) (client, seq int) {
	if len(l) > 0 && r.Intn(2) == 0 {
		m := l[r.Intn(len(l))]
		return m.Client, m.Seq
	}
	clients := []int{low, -1, 0, 1, 2, 3, 4, 5, 6, 7, 8, 9, top}
	seqs := []int{low, -1, 0, 1, near - 1, near, near + 1, near + 2, most, most + 1, top}
	return clients[r.Intn(len(clients))], seqs[r.Intn(len(seqs))]
}

// Whatever lists and arguments: each call answers as the chapter's words say.
func TestP14RunsAgainstPlainWords(t *testing.T) {
	seen := map[string]int{}
	for seed := range 30000 {
		r := rand.New(rand.NewSource(int64(seed)))
		near := []int{1, 2, 3, 1000, 1 << 33, most - 1, most}[r.Intn(7)]
		l, k := someList(r, near), someList(r, near)
		wasL, wasK := text(l), text(k)
		client, seq := someNumbers(r, l, near)
		a := answers()[r.Intn(len(answers()))]
		if got, want := Check(l) == api.OK, plainCheck(l); got != want {
			t.Fatalf("run %d: Check(%s): %v", seed, wasL, got)
		}
		m, has := Find(l, client)
		want, is := bookOf(l)[client]
		if has != (is && plainCheck(l)) || has && m != want || !has && m != (api.Mark{}) {
			t.Fatalf("run %d: Find(%s, %d): %v, %v", seed, wasL, client, m, has)
		}
		b := begin(l, client, seq)
		same(t, b, plainBegin(l, client, seq), "run %d: Begin(%s, %d, %d)", seed, wasL, client, seq)
		same(t, end(l, client, seq, a), plainEnd(l, client, seq, a), "run %d: End(%s, %d, %d, %v)", seed, wasL, client, seq, a)
		o := lose(l, client, seq)
		same(t, o, plainLose(l, client, seq), "run %d: Lose(%s, %d, %d)", seed, wasL, client, seq)
		j := join(l, k)
		same(t, j, plainJoin(l, k), "run %d: Join(%s, %s)", seed, wasL, wasK)
		if text(l) != wasL || text(k) != wasK || t.Failed() {
			t.Fatalf("run %d: %s and %s are %s and %s", seed, wasL, wasK, text(l), text(k))
		}
		seen[fmt.Sprintf("Begin %d %v", b.e, b.fresh)]++
		seen[fmt.Sprintf("Lose %d", o.e)]++
		seen[fmt.Sprintf("Join %d", j.e)]++
	}
	for _, what := range []string{"Begin 0 true", "Begin 0 false", "Begin 1 false", "Begin 21 false", "Begin 80 false", "Lose 0", "Lose 21", "Lose 60", "Join 0", "Join 21"} {
		if seen[what] < 300 {
			t.Errorf("just %d times %q: the runs don't go along the edges: %v", seen[what], what, seen)
		}
	}
}

// step lets one of the replicas do one thing, and fails, if what has ended in it
// begins again. It tells what was done.
func step(t *testing.T, r *rand.Rand, all []replica, near int) string {
	x := &all[r.Intn(len(all))]
	client := 1 + r.Intn(8)
	m, _ := Find(x.marks, client)
	var e api.Errno
	what, next := "", x.marks
	switch r.Intn(6) {
	case 0, 1:
		seq := max(m.Seq, near) + r.Intn(5) - 2
		var fresh bool
		next, fresh, e = Begin(x.marks, client, seq)
		if fresh && seq <= x.ended[client] {
			t.Fatalf("%s: %d of client %d begins, %d had ended", text(x.marks), seq, client, x.ended[client])
		}
		what = fmt.Sprintf("Begin %d %v", e, fresh)
	case 2:
		if next, e = End(x.marks, client, m.Seq-r.Intn(4)/3, answers()[r.Intn(5)]); e == api.OK {
			x.ended[client] = max(x.ended[client], m.Seq)
		}
		what = fmt.Sprint("End ", e)
	case 3:
		next, e = Lose(x.marks, client, m.Seq-r.Intn(4)/3)
		what = fmt.Sprint("Lose ", e)
	case 4:
		y := all[r.Intn(len(all))]
		next, e = someJoin(r, x.marks, y.marks)
		for client, seq := range y.ended {
			x.ended[client] = max(x.ended[client], seq)
		}
		what = fmt.Sprint("Join ", e)
	case 5:
		if r.Intn(10) == 0 {
			next, e = someJoin(r, x.marks, someTable(r, m.Seq))
			what = fmt.Sprint("Join whatever ", e)
		}
	}
	if e == api.OK {
		x.marks = next
	}
	return what
}

// someJoin joins two either way round.
func someJoin(r *rand.Rand, l, k []api.Mark) ([]api.Mark, api.Errno) {
	if r.Intn(2) == 0 {
		return Join(k, l)
	}
	return Join(l, k)
}

// holds fails, if x is no table, or if anything up to what has ended in it could
// begin once more.
func holds(t *testing.T, x replica) {
	if e := Check(x.marks); e != api.OK {
		t.Fatalf("%s is no table: error %d", text(x.marks), e)
	}
	for client := 1; client <= 8; client++ {
		for _, seq := range []int{1, 2, x.ended[client] - 2, x.ended[client] - 1, x.ended[client]} {
			if seq < 1 || seq > x.ended[client] {
				continue
			}
			if l, fresh, e := Begin(x.marks, client, seq); fresh || e != api.OK && e != api.ErrOld {
				t.Fatalf("%s: %d of client %d begins, %d had ended: %s, error %d", text(x.marks), seq, client, x.ended[client], text(l), e)
			}
		}
	}
}

// What has ended never begins again, in long runs of a few tables that are joined
// with one another, and with whatever others.
func TestWhatHasEndedNeverBeginsAgain(t *testing.T) {
	seen := map[string]int{}
	for seed := range 120 {
		r := rand.New(rand.NewSource(int64(seed)))
		all := make([]replica, 1+r.Intn(4))
		near := []int{0, 1, 1000, most - 300, most - 1}[seed%5]
		for range 1500 {
			seen[step(t, r, all, near)]++
			for _, x := range all {
				holds(t, x)
			}
		}
	}
	for _, what := range []string{"Begin 0 true", "Begin 0 false", "Begin 1 false", "Begin 80 false", "End 0", "End 60", "Lose 0", "Lose 60", "Join 0", "Join whatever 0"} {
		if seen[what] < 500 {
			t.Errorf("just %d times %q: %v", seen[what], what, seen)
		}
	}
}

// oneEach is each mark of the client with a Seq of 0 to 2, open, lost, or ended
// with one of two answers; and no mark.
func oneEach(client int) [][]api.Mark {
	l := [][]api.Mark{nil}
	for seq := range 3 {
		l = append(l, list(ended(client, seq, 1)), list(ended(client, seq, 2)), list(gone(client, seq)))
		if seq > 0 {
			l = append(l, list(begun(client, seq)))
		}
	}
	return l
}

// joined is the Join of tables, of the first two first.
func joined(t *testing.T, l ...[]api.Mark) []api.Mark {
	t.Helper()
	all := l[0]
	for _, k := range l[1:] {
		next, e := Join(all, k)
		if e != api.OK {
			t.Fatalf("Join(%s, %s): error %d", text(all), text(k), e)
		}
		all = next
	}
	return all
}

// unlike tells whether a client has ended one Seq in both, with unlike answers.
func unlike(l, k []api.Mark) bool {
	b := bookOf(k)
	return slices.ContainsFunc(l, func(m api.Mark) bool {
		n, both := b[m.Client]
		return both && m.Seq == n.Seq && !m.Open && !n.Open && m.Answer != n.Answer
	})
}

// laws fails, if Join of three tables is not the same grouped otherwise, joined
// twice, or turned round where it may be. It tells whether it may be turned.
func laws(t *testing.T, x, y, z []api.Mark) bool {
	t.Helper()
	two := joined(t, x, y)
	if l, k := joined(t, two, z), joined(t, x, joined(t, y, z)); !slices.Equal(l, k) {
		t.Fatalf("%s, %s, %s: %s, and grouped otherwise %s", text(x), text(y), text(z), text(l), text(k))
	}
	for _, again := range [][]api.Mark{joined(t, two, y), joined(t, two, x), joined(t, x, two), joined(t, two, two)} {
		if !slices.Equal(again, two) {
			t.Fatalf("%s, %s: %s, and once more %s", text(x), text(y), text(two), text(again))
		}
	}
	if turned := joined(t, y, x); slices.Equal(turned, two) == unlike(x, y) {
		t.Fatalf("%s, %s: %s, and turned round %s", text(x), text(y), text(two), text(turned))
	}
	return !unlike(x, y)
}

// Each three marks of one client.
func TestJoinLawsOfOneClient(t *testing.T) {
	tried := 0
	marks := oneEach(3)
	for _, x := range marks {
		for _, y := range marks {
			for _, z := range marks {
				laws(t, x, y, z)
				tried++
			}
		}
	}
	if tried != 12*12*12 {
		t.Errorf("%d were tried", tried)
	}
}

// Each two tables of two clients, against the chapter's words, and with a third.
func TestJoinEachOfTwoClients(t *testing.T) {
	var all [][]api.Mark
	for _, first := range oneEach(1) {
		for _, second := range oneEach(8) {
			all = append(all, slices.Concat(first, second))
		}
	}
	for i, x := range all {
		for j, y := range all {
			same(t, join(x, y), plainJoin(x, y), "Join(%s, %s)", text(x), text(y))
			laws(t, x, y, all[(7*i+3*j)%len(all)])
		}
	}
}

// Whatever tables, and tables that runs have come to.
func TestJoinLawsOfRuns(t *testing.T) {
	turned := 0
	for seed := range 10000 {
		r := rand.New(rand.NewSource(int64(seed)))
		near := []int{1, 2, 5, most - 1}[r.Intn(4)]
		if laws(t, someTable(r, near), someTable(r, near), someTable(r, near)) {
			turned++
		}
	}
	if turned < 500 {
		t.Errorf("just %d times it may be turned round", turned)
	}
	for seed := range 40 {
		r := rand.New(rand.NewSource(int64(seed)))
		all := make([]replica, 3)
		for range 400 {
			step(t, r, all, 1)
			laws(t, all[0].marks, all[1].marks, all[2].marks)
		}
	}
}

// Where each table of a run is joined with all others, in whatever order, they
// come to know of the same ends.
func TestJoinInAnyOrder(t *testing.T) {
	for seed := range 300 {
		r := rand.New(rand.NewSource(int64(seed)))
		l := make([][]api.Mark, 4)
		for i := range l {
			for _, m := range someTable(r, 3) {
				m.Answer.Value, m.Answer.Err = 0, 0
				l[i] = append(l[i], m)
			}
		}
		want := joined(t, l...)
		for range 6 {
			r.Shuffle(len(l), func(i, j int) { l[i], l[j] = l[j], l[i] })
			if got := joined(t, l...); !slices.Equal(got, want) {
				t.Fatalf("seed %d: %s; want %s", seed, text(got), text(want))
			}
		}
	}
}

// R2: what a call answers hangs on its arguments alone.
func TestR2Again(t *testing.T) {
	for seed := range 2000 {
		r := rand.New(rand.NewSource(int64(seed)))
		l, k := someList(r, 3), someList(r, 3)
		client, seq := 1+r.Intn(8), 1+r.Intn(5)
		ask := func(l, k []api.Mark) string {
			return fmt.Sprint(begin(l, client, seq), end(l, client, seq, api.Answer{}), lose(l, client, seq), join(l, k))
		}
		first := ask(l, k)
		if again := ask(slices.Clone(l), append(make([]api.Mark, 0, 100), k...)); again != first {
			t.Fatalf("seed %d: %s, and again %s", seed, first, again)
		}
	}
}
