package disk

import (
	"bytes"
	"fmt"
	"math/rand"
	"testing"

	"purse/api"
)

// plain is a disk as the chapter's words have it: its blocks as they are kept,
// a list of what waits, and nothing worked out ahead.
type plain struct {
	kept  [][]byte
	waits []struct {
		at int
		b  []byte
	}
	armed int
	down  bool
}

func newPlain(blocks int) *plain {
	p := &plain{}
	for range blocks {
		p.kept = append(p.kept, full(0))
	}
	return p
}

func (p *plain) shown(at int) []byte {
	b := p.kept[at]
	for _, w := range p.waits {
		if w.at == at {
			b = w.b
		}
	}
	return b
}

// hit is whether the Write or Sync that is done now is the one that is named.
func (p *plain) hit() bool {
	if p.armed < 1 {
		return false
	}
	p.armed--
	if p.armed == 0 {
		p.down = true
	}
	return p.down
}

func (p *plain) write(at int, b []byte) api.Errno {
	if p.down {
		return api.ErrDown
	}
	if at < 0 || at >= len(p.kept) {
		return api.ErrRange
	}
	if len(b) != api.BlockSize {
		return api.ErrArg
	}
	p.waits = append(p.waits, struct {
		at int
		b  []byte
	}{at, bytes.Clone(b)})
	if p.hit() {
		return api.ErrDown
	}
	return api.OK
}

func (p *plain) sync() api.Errno {
	if p.down || p.hit() {
		return api.ErrDown
	}
	for _, w := range p.waits {
		p.kept[w.at] = w.b
	}
	p.waits = nil
	return api.OK
}

func (p *plain) arm(n int) api.Errno {
	if p.down {
		return api.ErrDown
	}
	p.armed = n
	return api.OK
}

func (p *plain) crash(keep []int) {
	p.down = true
	for i, w := range p.waits {
		n := 0
		if i < len(keep) {
			n = keep[i]
		}
		b := bytes.Clone(p.kept[w.at])
		for j := range b {
			if j < n {
				b[j] = w.b[j]
			}
		}
		p.kept[w.at] = b
	}
	p.waits = nil
}

func (p *plain) start() {
	if p.down {
		p.waits, p.armed, p.down = nil, 0, false
	}
}

func (p *plain) fork() *plain {
	f := *p
	f.kept = append([][]byte(nil), p.kept...)
	f.waits = append(f.waits[:0:0], p.waits...)
	return &f
}

// alike is what of a disk is not as the plain one has it; "" if all is.
func alike(d *Disk, p *plain) string {
	if d.Size() != len(p.kept) || d.Down() != p.down || d.Waiting() != len(p.waits) {
		return fmt.Sprintf("size %d, down %v, %d waiting; want %d, %v, %d", d.Size(), d.Down(), d.Waiting(), len(p.kept), p.down, len(p.waits))
	}
	for at := range p.kept {
		b, e := d.Read(at)
		if p.down && (e != api.ErrDown || len(b) != 0) {
			return fmt.Sprintf("Read(%d): error %d, %x; want %d", at, e, b, api.ErrDown)
		}
		if !p.down && (e != api.OK || !bytes.Equal(b, p.shown(at))) {
			return fmt.Sprintf("Read(%d): error %d, %x; want %x", at, e, b, p.shown(at))
		}
	}
	return ""
}

// someKeep is up to n + 2 numbers of bytes, some of them outside a block.
func someKeep(r *rand.Rand, n int) []int {
	keep := make([]int, r.Intn(n+3))
	for i := range keep {
		keep[i] = r.Intn(api.BlockSize+9) - 4
	}
	return keep
}

// someBlock is bytes of which no two are often the same; now and then too few
// or too many.
func someBlock(r *rand.Rand) []byte {
	n := api.BlockSize
	if r.Intn(20) == 0 {
		n += r.Intn(3) - 1
	}
	b := make([]byte, n)
	for i := range b {
		b[i] = byte(r.Intn(256))
	}
	return b
}

// step does one thing to both, and tells what was answered.
func step(r *rand.Rand, d *Disk, p *plain) (what string, got, want api.Errno) {
	switch k := r.Intn(40); {
	case k < 22:
		at, b := r.Intn(len(p.kept)+1), someBlock(r)
		if r.Intn(20) == 0 {
			at = -1
		}
		return fmt.Sprintf("Write(%d, %d bytes)", at, len(b)), d.Write(at, b), p.write(at, b)
	case k < 28:
		return "Sync", d.Sync(), p.sync()
	case k < 31:
		n := r.Intn(12) - 2
		return fmt.Sprintf("Arm(%d)", n), d.Arm(n), p.arm(n)
	case k < 34:
		keep := someKeep(r, len(p.waits))
		p.crash(keep)
		return fmt.Sprintf("Crash(%v)", keep), d.Crash(keep...), api.OK
	default:
		p.start()
		return "Start", d.Start(), api.OK
	}
}

// Runs of all calls, and forks that go on by themselves, against the plain one.
func TestP4RunsAgainstPlainWords(t *testing.T) {
	for seed := range 300 {
		r := rand.New(rand.NewSource(int64(seed)))
		blocks := 1 + r.Intn(4)
		ds, ps := []*Disk{fresh(t, blocks)}, []*plain{newPlain(blocks)}
		for n := range 150 {
			i := r.Intn(len(ds))
			if len(ds) < 3 && r.Intn(40) == 0 {
				ds, ps = append(ds, ds[i].Fork()), append(ps, ps[i].fork())
			}
			what, got, want := step(r, ds[i], ps[i])
			if got != want {
				t.Fatalf("run %d, step %d: %s: error %d; want %d", seed, n, what, got, want)
			}
			for j := range ds {
				if s := alike(ds[j], ps[j]); s != "" {
					t.Fatalf("run %d, step %d: %s of disk %d: disk %d: %s", seed, n, what, i, j, s)
				}
			}
		}
	}
}

// may is, of each block, what was kept, and all that was written to it since.
type may [][][]byte

func (m may) sync(d *Disk) {
	for at := range m {
		b, _ := d.Read(at)
		m[at] = [][]byte{b}
	}
}

// fault is the first byte of the disk that none of them had there; "" if all
// bytes are somebody's.
func (m may) fault(d *Disk) string {
	for at, l := range m {
		b, _ := d.Read(at)
		for i := range api.BlockSize {
			had := false
			for _, w := range l {
				had = had || len(b) == api.BlockSize && w[i] == b[i]
			}
			if !had {
				return fmt.Sprintf("block %d, byte %d: nobody wrote it: %x", at, i, b)
			}
		}
	}
	return ""
}

// wear does Writes and Syncs till the one that is hit, the n-th.
func (m may) wear(t *testing.T, r *rand.Rand, d *Disk, n int) {
	d.Arm(n)
	for i := 1; i <= n; i++ {
		if r.Intn(6) == 0 {
			if d.Sync() == api.OK {
				m.sync(d)
			}
		} else {
			at, b := r.Intn(3), make([]byte, api.BlockSize)
			r.Read(b)
			m[at] = append(m[at], b)
			d.Write(at, b)
		}
		if d.Down() != (i == n) {
			t.Fatalf("armed by %d: behind %d calls down is %v", n, i, d.Down())
		}
	}
}

// 'What follows': behind any fall a block that was not written since the last
// Sync is as it was, and one that was has at each byte what one of its writes
// since, or what was kept, had there.
func TestWhatFollowsBehindAnyFall(t *testing.T) {
	for seed := range 400 {
		r := rand.New(rand.NewSource(int64(seed)))
		d := fresh(t, 5)
		m := make(may, 5)
		m.sync(d)
		for range 12 {
			m.wear(t, r, d, 1+r.Intn(9))
			if r.Intn(4) > 0 {
				d.Crash(someKeep(r, d.Waiting())...)
			}
			d.Start()
			if s := m.fault(d); s != "" {
				t.Fatalf("run %d: %s", seed, s)
			}
			m.sync(d)
		}
	}
}

// Every byte at which a write may be torn, by a hit on it or on the Sync.
func TestWhatFollowsAtEachByte(t *testing.T) {
	for _, hit := range []int{1, 2} {
		for n := range api.BlockSize + 1 {
			d := fresh(t, 2)
			d.Write(0, full(1))
			d.Write(1, full(1))
			d.Sync()
			d.Arm(hit)
			d.Write(0, full(2))
			d.Sync()
			stands(t, d, true, 1)
			d.Crash(n)
			d.Start()
			shows(t, d, 0, torn(n, 2, 1))
			shows(t, d, 1, full(1))
		}
	}
}

// Reads take no longer where much waits: this ends at once, or not for long.
func TestManyWritesThatWait(t *testing.T) {
	const writes = 200000
	d := fresh(t, 2)
	d.Write(0, full(7))
	for i := range writes {
		d.Write(1, full(byte(i)))
		if b, e := d.Read(0); e != api.OK || b[0] != 7 {
			t.Fatalf("behind %d writes: error %d, %x", i, e, b)
		}
	}
	stands(t, d, false, writes+1)
	d.Sync()
	stands(t, d, false, 0)
	shows(t, d, 1, full(byte((writes-1)%256)))
}
