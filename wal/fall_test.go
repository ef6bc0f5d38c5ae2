package wal

import (
	"bytes"
	"fmt"
	"math/rand"
	"testing"

	"purse/api"
	"purse/codec"
	"purse/disk"
)

// tale is a log, and what the chapter says of it: all records by their numbers,
// what of them is safe, and what was asked when the disk went down.
type tale struct {
	t     testing.TB
	name  string
	d     *disk.Disk
	w     *Wal
	all   [][]byte
	first int
	safe  int
	cut   int    // the n of a Cut that has not answered; -1: there is none
	last  []byte // the record of an Append that was answered with ErrDown
	more  bool   // there is one
	stamp uint64 // the greatest one that a log ahead of this one has given
}

func begin(t testing.TB, name string, blocks int) *tale {
	d := newDisk(t, blocks)
	return &tale{t: t, name: name, d: d, w: open(t, d), cut: -1}
}

// fork goes on from the same place with another disk, by a log opened anew.
func (l *tale) fork(name string) *tale {
	f := *l
	f.name = l.name + ", " + name
	f.d = l.d.Fork()
	f.w = open(l.t, f.d)
	f.all = append([][]byte(nil), l.all...)
	f.safe = len(f.all)
	return &f
}

func (l *tale) count() int {
	n := 0
	for _, b := range l.all[l.first:] {
		n += 2 + (len(b)+63)/64
	}
	return n
}

// append answers whether the disk is still up.
func (l *tale) append(b []byte) bool {
	l.t.Helper()
	e := l.w.Append(b)
	if l.count()+2+(len(b)+63)/64 > l.d.Size()/2-16 {
		want(l.t, l.name+": Append without room", e, api.ErrFull)
		return true
	}
	if e == api.ErrDown {
		l.last, l.more = b, true
		return false
	}
	want(l.t, l.name+": Append", e, api.OK)
	l.all = append(l.all, b)
	if s := l.w.last(); s <= l.stamp {
		l.t.Fatalf("%s: the stamp %d comes again: there were %d", l.name, s, l.stamp)
	}
	return true
}

func (l *tale) sync() bool {
	l.t.Helper()
	e := l.w.Sync()
	if e == api.ErrDown {
		return false
	}
	want(l.t, l.name+": Sync", e, api.OK)
	l.safe = len(l.all)
	return true
}

func (l *tale) cutAt(n int) bool {
	l.t.Helper()
	e := l.w.Cut(n)
	if e == api.ErrDown {
		l.cut = n
		return false
	}
	want(l.t, fmt.Sprintf("%s: Cut(%d)", l.name, n), e, api.OK)
	l.first, l.safe = n, len(l.all)
	return true
}

// texts is the records that the log has.
func (l *tale) texts() []string {
	var out []string
	for _, b := range l.all[l.first:] {
		out = append(out, string(b))
	}
	return out
}

func (l *tale) check() {
	l.t.Helper()
	has(l.t, l.name, l.w, l.first, l.texts()...)
}

// fall lets the disk fall, opens the log, and holds it against what P5.4 says;
// what is found is what it has from then on.
func (l *tale) fall(keep []int) {
	l.t.Helper()
	l.d.Crash(keep...)
	l.d.Start()
	l.reopen()
}

func (l *tale) reopen() {
	l.t.Helper()
	l.stamp = max(l.stamp, l.w.stamp)
	l.w = open(l.t, l.d)
	a, b := l.w.First(), l.w.Next()
	isCut := l.cut > l.first && a == l.cut
	if a != l.first && !isCut {
		l.t.Fatalf("%s: First is %d; it was %d (a Cut: %d)", l.name, a, l.first, l.cut)
	}
	if isCut {
		l.safe = len(l.all)
	}
	if l.more {
		l.all = append(l.all, l.last)
	}
	if b < l.safe || b > len(l.all) {
		l.t.Fatalf("%s: Next is %d; %d were safe, %d appended", l.name, b, l.safe, len(l.all))
	}
	l.all = l.all[:b:b]
	l.first, l.safe, l.cut, l.last, l.more = a, b, -1, nil, false
	l.check()
}

// step is one of a run's calls; it answers whether the disk is still up.
type step func(l *tale) bool

func appends(n int) step {
	return func(l *tale) bool { return l.append(fill(len(l.all)+1000*len(l.name), n)) }
}

func syncs(l *tale) bool { return l.sync() }

// cuts cuts all records but the last n ones.
func cuts(n int) step {
	return func(l *tale) bool { return l.cutAt(max(l.first, len(l.all)-n)) }
}

// ways is the ways of keeping n writes that wait.
func ways(n int) [][]int {
	out := [][]int{nil}
	each := func(keep func(i int) int) {
		var l []int
		for i := range n {
			l = append(l, keep(i))
		}
		out = append(out, l)
	}
	among := func(in func(i int) bool) {
		each(func(i int) int {
			if in(i) {
				return api.BlockSize
			}
			return 0
		})
	}
	among(func(i int) bool { return true })
	if n == 0 {
		return out
	}
	among(func(i int) bool { return i < n/2 })
	among(func(i int) bool { return i >= n/2 })
	among(func(i int) bool { return i > 0 })
	among(func(i int) bool { return i < n-1 })
	among(func(i int) bool { return i == n-1 })
	among(func(i int) bool { return i%2 == 0 })
	among(func(i int) bool { return i%2 == 1 })
	for _, tear := range []int{1, 6, 7, 8, 9, 12, 33, 55, 56, 57, 63} {
		each(func(i int) int { return tear })
		each(func(i int) int {
			if i < n-1 {
				return api.BlockSize
			}
			return tear
		})
	}
	each(func(i int) int { return 64 - 5*i })
	each(func(i int) int { return 7 * i })
	return out
}

// story is a run that goes round a small disk, with all sorts of records.
func story() []step {
	return []step{
		appends(0), appends(30), syncs, appends(100), appends(47), syncs, cuts(2),
		appends(200), appends(1), appends(64), cuts(3), appends(10), syncs, cuts(0),
		appends(5), appends(150), syncs, cuts(1), appends(300), appends(40),
		cuts(1), appends(35), appends(60), syncs, appends(90), appends(3),
	}
}

func run(l *tale, steps []step) bool {
	for _, s := range steps {
		if !s(l) {
			return false
		}
	}
	return true
}

// most is above the count of Writes and Syncs of each run of these tests.
const most = 1000

// TestP5_4FallsAtEachWriteAndSync: the whole story, a fall at each Write and
// Sync, each with all ways of keeping what waits; then it goes on.
func TestP5_4FallsAtEachWriteAndSync(t *testing.T) {
	at := 1
	for ; at < most; at++ {
		for way, n := 0, 1; way < n; way++ {
			l := begin(t, fmt.Sprintf("armed at %d, way %d", at, way), 80)
			l.d.Arm(at)
			up := run(l, story())
			if up != !l.d.Down() {
				t.Fatalf("%s: is the disk up: %t", l.name, up)
			}
			keeps := ways(l.d.Waiting())
			n = len(keeps)
			l.fall(keeps[way])
			run(l, story())
			l.check()
			l.fall(keeps[way])
			if up && way == n-1 {
				if at < 40 {
					t.Errorf("just %d Writes and Syncs", at)
				}
				return
			}
		}
	}
	t.Fatalf("the disk goes down %d times", at)
}

// TestP5_4FallsBehindFalls: behind a first fall a second one, at each Write and
// Sync of what follows.
func TestP5_4FallsBehindFalls(t *testing.T) {
	short := []step{appends(20), appends(110), syncs, appends(40), appends(0), cuts(2), appends(90), syncs, appends(70)}
	for at := 1; at < most; at++ {
		l := begin(t, fmt.Sprintf("armed at %d", at), 70)
		l.d.Arm(at)
		up := run(l, short)
		for way, keep := range ways(l.d.Waiting()) {
			f := *l
			f.name = fmt.Sprintf("%s, way %d", l.name, way)
			f.d = l.d.Fork()
			f.all = append([][]byte(nil), l.all...)
			f.fall(keep)
			fallsAgain(&f, short)
		}
		if up {
			return
		}
	}
	t.Fatal("the disk goes down for ever")
}

func fallsAgain(l *tale, steps []step) {
	l.t.Helper()
	for at := 1; at < most; at++ {
		f := l.fork(fmt.Sprintf("then at %d", at))
		f.d.Arm(at)
		up := run(f, steps)
		for way, keep := range ways(f.d.Waiting()) {
			if (at+way)%7 > 0 {
				continue
			}
			g := *f
			g.name = fmt.Sprintf("%s, way %d", f.name, way)
			g.d = f.d.Fork()
			g.all = append([][]byte(nil), f.all...)
			g.fall(keep)
			run(&g, steps)
			g.fall(nil)
		}
		if up {
			return
		}
	}
	l.t.Fatal("the disk goes down for ever")
}

// TestP5_5FallsWhileItIsOpened: the disk falls at a Write or Sync of Open, if
// there is one, again and again.
func TestP5_5FallsWhileItIsOpened(t *testing.T) {
	hit := 0
	for steps := range len(story()) + 1 {
		for at := 1; at <= 4; at++ {
			for way := range len(ways(5)) {
				l := begin(t, fmt.Sprintf("%d steps, armed at %d, way %d", steps, at, way), 80)
				run(l, story()[:steps])
				for range 4 {
					l.d.Arm(at)
					w, e := Open(l.d)
					if e == api.OK {
						l.d.Arm(0)
						break
					}
					hit++
					want(t, l.name+": Open", e, api.ErrDown)
					if w != nil {
						t.Fatalf("%s: a log beside an error", l.name)
					}
					if l.d.Down() && way > 0 {
						keeps := ways(l.d.Waiting())
						l.d.Crash(keeps[way%len(keeps)]...)
					}
					l.d.Start()
				}
				l.reopen()
				run(l, story())
				l.check()
			}
		}
	}
	if hit == 0 {
		t.Log("Open neither writes nor syncs")
	}
}

// TestP5_5OpenOfWhatWaits: a log is opened while writes wait, and what it has
// found stays, whatever is kept.
func TestP5_5OpenOfWhatWaits(t *testing.T) {
	for way := range len(ways(5)) {
		l := begin(t, fmt.Sprintf("way %d", way), 100)
		for i := range 5 {
			run(l, []step{appends(10 * i), appends(50)})
			l = l.fork("opened")
			l.check()
			if (i+way)%2 == 0 {
				l.fall(nil)
			}
			l.append(fill(i, 40))
			keeps := ways(l.d.Waiting())
			l.fall(keeps[way%len(keeps)])
			l.cutAt(max(l.first, len(l.all)-2))
		}
	}
}

// TestP5_4WhatIsLostDoesNotComeBack: of records that were not safe the first
// ones are lost, and the later ones are kept; others are appended in the place
// of the first ones, as long as they were: the later ones are no more.
func TestP5_4WhatIsLostDoesNotComeBack(t *testing.T) {
	for _, size := range []int{0, 5, 34, 80, 200} {
		for lost := 1; lost < 6; lost++ {
			d := newDisk(t, 300)
			w := open(t, d)
			want(t, "Append", w.Append([]byte("first")), api.OK)
			want(t, "Sync", w.Sync(), api.OK)
			for i := range 6 {
				want(t, "Append", w.Append(fill(i, size)), api.OK)
			}
			each := d.Waiting() / 6
			keep := make([]int, d.Waiting())
			for i := range keep {
				if i >= lost*each {
					keep[i] = api.BlockSize
				}
			}
			w = again(t, d, keep...)
			has(t, "what was lost", w, 0, "first")
			l := []string{"first"}
			for i := range lost {
				want(t, "Append", w.Append(fill(100+i, size)), api.OK)
				l = append(l, string(fill(100+i, size)))
			}
			want(t, "Sync", w.Sync(), api.OK)
			has(t, "others in its place", again(t, d), 0, l...)
		}
	}
}

// TestP5_4WhatIsCutDoesNotComeBack: the cut is safe, though the blocks of what
// was cut still lie there.
func TestP5_4WhatIsCutDoesNotComeBack(t *testing.T) {
	d := newDisk(t, 100)
	w := open(t, d)
	for i := range 40 {
		want(t, "Append", w.Append([]byte{byte(i)}), api.OK)
		want(t, "Cut", w.Cut(i), api.OK)
		has(t, "cut", again(t, d.Fork()), i, string([]byte{byte(i)}))
		want(t, "Cut", w.Cut(i+1), api.OK)
		has(t, "all cut", again(t, d.Fork()), i+1)
		if i%7 == 3 {
			w = again(t, d)
		}
	}
}

// TestP5_4ACutThatHasNotAnswered: a fall within a Cut while records wait: if
// the cut counts, all of them are there.
func TestP5_4ACutThatHasNotAnswered(t *testing.T) {
	cut, not := 0, 0
	for at := 1; at < 12; at++ {
		for way := range len(ways(5)) {
			l := begin(t, fmt.Sprintf("armed at %d, way %d", at, way), 100)
			run(l, []step{appends(3), syncs, appends(50), appends(100)})
			l.d.Arm(at)
			if l.cutAt(2) {
				continue
			}
			keeps := ways(l.d.Waiting())
			l.fall(keeps[way%len(keeps)])
			if l.first == 2 {
				cut++
			} else {
				not++
			}
		}
	}
	if cut == 0 || not == 0 {
		t.Errorf("%d cuts that had not answered count, %d do not", cut, not)
	}
}

// TestP5_4RecordsThatLookLikeTheLogsOwn: records out of the blocks of the disk
// itself, out of blocks that the log will write, and out of their pieces.
func TestP5_4RecordsThatLookLikeTheLogsOwn(t *testing.T) {
	random := rand.New(rand.NewSource(4))
	for round := range 60 {
		l := begin(t, fmt.Sprintf("round %d", round), 120)
		like := func() []byte {
			var b []byte
			for range 1 + random.Intn(3) {
				x, _ := l.d.Read(random.Intn(l.d.Size()))
				if random.Intn(3) == 0 {
					x = sealed(l.w.stamp+uint64(random.Intn(200)), byte(1+random.Intn(3)), x[:part])
				}
				b = append(b, x...)
			}
			return b[random.Intn(64):]
		}
		for range 60 {
			up := true
			if random.Intn(6) == 0 {
				l.d.Arm(1 + random.Intn(8))
			}
			switch random.Intn(5) {
			case 0:
				up = l.sync()
			case 1:
				up = l.cutAt(l.first + random.Intn(len(l.all)-l.first+1))
			default:
				up = l.append(like())
			}
			if !up || random.Intn(12) == 0 {
				keeps := ways(l.d.Waiting())
				l.fall(keeps[random.Intn(len(keeps))])
			}
		}
	}
}

// TestP5_4ABlockThatLooksLikeARecord: the second block of a record carries just
// what the first one of the next record would.
func TestP5_4ABlockThatLooksLikeARecord(t *testing.T) {
	d := newDisk(t, 100)
	w := open(t, d)
	want(t, "Append", w.Append([]byte("first")), api.OK)
	l := []string{"first"}
	for i := range 3 {
		next := append(codec.Num(w.stamp+1), codec.Text([]byte("ghost"))...)
		ahead := len(codec.Num(w.last())) + 1
		b := string(append(fill(i, part-ahead), next...))
		want(t, "Append", w.Append([]byte(b)), api.OK)
		if n := len(w.records[i+1].places); n != 2 {
			t.Fatalf("the record lies on %d blocks", n)
		}
		l = append(l, b)
	}
	want(t, "Sync", w.Sync(), api.OK)
	has(t, "opened", again(t, d), 0, l...)
}

// TestP5_4LongRuns: whatever comes, on disks of many sizes, over runs that are
// much longer than the disk.
func TestP5_4LongRuns(t *testing.T) {
	for seed := range 60 {
		random := rand.New(rand.NewSource(int64(seed)))
		l := begin(t, fmt.Sprintf("seed %d", seed), 30+random.Intn(150))
		for range 400 {
			if random.Intn(15) == 0 {
				l.d.Arm(1 + random.Intn(30))
			}
			if !anyStep(l, random) || random.Intn(40) == 0 {
				anyFall(l, random)
			}
		}
		l.check()
		l.fall(nil)
	}
}

func anyStep(l *tale, random *rand.Rand) bool {
	switch random.Intn(9) {
	case 0, 1:
		return l.sync()
	case 2:
		return l.cutAt(l.first + random.Intn(len(l.all)-l.first+1))
	case 3:
		return l.cutAt(l.first + random.Intn(min(3, len(l.all)-l.first+1)))
	case 4:
		return l.append(fill(random.Int(), random.Intn(900)))
	}
	return l.append(fill(random.Int(), random.Intn(130)))
}

func anyFall(l *tale, random *rand.Rand) {
	l.t.Helper()
	keep := make([]int, l.d.Waiting())
	for i := range keep {
		switch random.Intn(3) {
		case 0:
			keep[i] = api.BlockSize
		case 1:
			keep[i] = random.Intn(66)
		}
	}
	l.fall(keep)
}

// TestP5_4TheSameBytesAgain: each record is like the others but for its first
// byte, so that torn ones are hard to tell.
func TestP5_4TheSameBytesAgain(t *testing.T) {
	for seed := range 40 {
		random := rand.New(rand.NewSource(int64(seed)))
		l := begin(t, fmt.Sprintf("seed %d", seed), 90)
		for i := range 300 {
			b := bytes.Repeat([]byte{0}, 20+40*random.Intn(4))
			b[0] = byte(i)
			b[len(b)-1] = byte(i)
			if random.Intn(4) == 0 {
				l.d.Arm(1 + random.Intn(6))
			}
			if !l.append(b) || i%3 == 0 && !l.sync() || i%5 == 0 && !l.cutAt(max(l.first, len(l.all)-random.Intn(4))) {
				anyFall(l, random)
			}
		}
	}
}
