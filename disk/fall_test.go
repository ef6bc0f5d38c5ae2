package disk

import (
	"bytes"
	"math"
	"testing"

	"purse/api"
)

func TestP4_3ExampleOfAHitWrite(t *testing.T) {
	d := fresh(t, 2)
	want(t, "Arm(2)", d.Arm(2), api.OK)
	want(t, "the first Write", d.Write(0, full(1)), api.OK)
	want(t, "the second Write", d.Write(1, full(2)), api.ErrDown)
	stands(t, d, true, 2)
	if b, e := d.Read(0); e != api.ErrDown || len(b) != 0 {
		t.Errorf("Read: error %d, %x; want %d", e, b, api.ErrDown)
	}
	want(t, "Crash", d.Crash(0, 3), api.OK)
	d.Start()
	shows(t, d, 0, full(0))
	shows(t, d, 1, torn(3, 2, 0))
}

func TestP4_3WhichOneIsHit(t *testing.T) {
	for n := 1; n <= 6; n++ {
		d := fresh(t, 1)
		d.Arm(n)
		for i := 1; i < n; i++ {
			if i%2 == 0 {
				want(t, "Sync ahead of the hit one", d.Sync(), api.OK)
			} else {
				want(t, "Write ahead of the hit one", d.Write(0, full(byte(i))), api.OK)
			}
			stands(t, d, false, i%2)
		}
		if n%2 == 0 {
			want(t, "a hit Sync", d.Sync(), api.ErrDown)
		} else {
			want(t, "a hit Write", d.Write(0, full(byte(n))), api.ErrDown)
		}
		stands(t, d, true, 1)
	}
}

func TestP4_3AHitSyncKeepsNothing(t *testing.T) {
	d := fresh(t, 2)
	d.Write(0, full(1))
	d.Sync()
	d.Write(0, full(2))
	d.Write(1, full(3))
	d.Arm(1)
	want(t, "Sync", d.Sync(), api.ErrDown)
	stands(t, d, true, 2)
	lost, kept := d.Fork(), d.Fork()
	lost.Start()
	shows(t, lost, 0, full(1))
	shows(t, lost, 1, full(0))
	kept.Crash(6, api.BlockSize)
	kept.Start()
	shows(t, kept, 0, torn(6, 2, 1))
	shows(t, kept, 1, full(3))
}

func TestP4_3ASyncOfNothingIsHitToo(t *testing.T) {
	d := fresh(t, 1)
	d.Arm(2)
	want(t, "the first Sync", d.Sync(), api.OK)
	want(t, "the second Sync", d.Sync(), api.ErrDown)
	stands(t, d, true, 0)
}

func TestP4_3NoneIsHit(t *testing.T) {
	for _, n := range []int{0, -1, -2, math.MinInt, 1000, math.MaxInt} {
		d := fresh(t, 1)
		want(t, "Arm", d.Arm(n), api.OK)
		for i := range 50 {
			want(t, "Write", d.Write(0, full(byte(i))), api.OK)
			want(t, "Sync", d.Sync(), api.OK)
		}
		stands(t, d, false, 0)
		shows(t, d, 0, full(49))
	}
}

func TestP4_3ALaterArm(t *testing.T) {
	d := fresh(t, 1)
	d.Arm(2)
	d.Write(0, full(1))
	want(t, "Arm(3) in the place of Arm(2)", d.Arm(3), api.OK)
	want(t, "the first", d.Write(0, full(2)), api.OK)
	want(t, "the second", d.Sync(), api.OK)
	want(t, "the third", d.Sync(), api.ErrDown)
	d.Start()
	d.Arm(9)
	d.Arm(1)
	want(t, "an earlier one than was named", d.Write(0, full(3)), api.ErrDown)
	for _, none := range []int{0, -1, math.MinInt} {
		d.Start()
		d.Arm(1)
		want(t, "Arm of none", d.Arm(none), api.OK)
		want(t, "Write", d.Write(0, full(4)), api.OK)
		want(t, "Sync", d.Sync(), api.OK)
	}
}

func TestP4_3RefusedCallsDoNotCount(t *testing.T) {
	d := fresh(t, 1)
	d.Arm(2)
	for range 3 {
		want(t, "Write outside", d.Write(1, full(1)), api.ErrRange)
		want(t, "Write ahead of all", d.Write(-1, full(1)), api.ErrRange)
		want(t, "Write of nil", d.Write(0, nil), api.ErrArg)
		want(t, "Write of too much", d.Write(0, append(full(1), 1)), api.ErrArg)
		d.Read(1)
		shows(t, d, 0, full(0))
		want(t, "Start", d.Start(), api.OK)
		stands(t, d, false, 0)
	}
	want(t, "the first", d.Write(0, full(1)), api.OK)
	want(t, "Write of nil", d.Write(0, nil), api.ErrArg)
	want(t, "Write outside", d.Write(1, full(2)), api.ErrRange)
	stands(t, d, false, 1)
	want(t, "the second", d.Write(0, full(2)), api.ErrDown)
	stands(t, d, true, 2)
}

func TestP4_3StartArmsNone(t *testing.T) {
	d := fresh(t, 1)
	d.Arm(1)
	d.Crash()
	want(t, "Start", d.Start(), api.OK)
	want(t, "Write behind Crash and Start", d.Write(0, full(1)), api.OK)
	want(t, "Sync behind Crash and Start", d.Sync(), api.OK)
	d.Arm(1)
	d.Sync()
	d.Start()
	for range 3 {
		want(t, "Write behind a hit Sync and Start", d.Write(0, full(2)), api.OK)
	}
	d.Arm(1)
	want(t, "Start of one that is up", d.Start(), api.OK)
	want(t, "Write that is still hit", d.Write(0, full(3)), api.ErrDown)
	want(t, "Arm of one that is down", d.Arm(1), api.ErrDown)
	d.Start()
	want(t, "Write behind all that", d.Write(0, full(4)), api.OK)
}

func TestP4_4ExampleOfATornBlock(t *testing.T) {
	d := fresh(t, 2)
	d.Write(0, full(1))
	d.Sync()
	d.Write(0, full(2))
	d.Write(1, full(3))
	want(t, "Crash(5)", d.Crash(5), api.OK)
	stands(t, d, true, 0)
	want(t, "Start", d.Start(), api.OK)
	stands(t, d, false, 0)
	shows(t, d, 0, torn(5, 2, 1))
	shows(t, d, 1, full(0))
}

func TestP4_4UpToWhichByte(t *testing.T) {
	rows := []struct{ keep, bytes int }{
		{math.MinInt, 0}, {-1, 0}, {0, 0}, {1, 1}, {33, 33},
		{api.BlockSize - 1, api.BlockSize - 1}, {api.BlockSize, api.BlockSize},
		{api.BlockSize + 1, api.BlockSize}, {math.MaxInt, api.BlockSize},
	}
	for _, row := range rows {
		d := fresh(t, 2)
		d.Write(1, full(1))
		d.Sync()
		d.Write(1, full(2))
		want(t, "Crash", d.Crash(row.keep), api.OK)
		d.Start()
		shows(t, d, 0, full(0))
		shows(t, d, 1, torn(row.bytes, 2, 1))
	}
}

func TestP4_4HowManyNumbers(t *testing.T) {
	most := api.BlockSize
	rows := []struct {
		keep []int
		want [3][]byte
	}{
		{nil, [3][]byte{full(0), full(0), full(0)}},
		{[]int{}, [3][]byte{full(0), full(0), full(0)}},
		{[]int{4}, [3][]byte{torn(4, 1, 0), full(0), full(0)}},
		{[]int{-3, most + 9}, [3][]byte{full(0), full(2), full(0)}},
		{[]int{0, 0, 1}, [3][]byte{full(0), full(0), torn(1, 3, 0)}},
		{[]int{1, 2, 3}, [3][]byte{torn(1, 1, 0), torn(2, 2, 0), torn(3, 3, 0)}},
		{[]int{most, most, most, most, 7, -1}, [3][]byte{full(1), full(2), full(3)}},
	}
	for _, row := range rows {
		d := fresh(t, 3)
		for at := range 3 {
			d.Write(at, full(byte(at+1)))
		}
		want(t, "Crash", d.Crash(row.keep...), api.OK)
		stands(t, d, true, 0)
		d.Start()
		for at, b := range row.want {
			shows(t, d, at, b)
		}
	}
}

func TestP4_4SeveralWritesOfOneBlock(t *testing.T) {
	rows := []struct {
		keep []int
		want []byte
	}{
		{nil, full(9)},
		{[]int{5, 3, 1}, []byte{3, 2, 2, 1, 1, 9}},
		{[]int{1, 3, 5}, []byte{3, 3, 3, 3, 3, 9}},
		{[]int{2, 0, 1}, []byte{3, 1, 9}},
		{[]int{0, 2}, []byte{2, 2, 9}},
		{[]int{api.BlockSize, 2}, []byte{2, 2, 1}},
		{[]int{api.BlockSize, api.BlockSize}, full(2)},
		{[]int{4, -1, 3}, []byte{3, 3, 3, 1, 9}},
	}
	for _, row := range rows {
		d := fresh(t, 1)
		d.Write(0, full(9))
		d.Sync()
		for v := range 3 {
			d.Write(0, full(byte(v+1)))
		}
		d.Crash(row.keep...)
		d.Start()
		// What a row leaves out goes on as its last byte.
		for len(row.want) < api.BlockSize {
			row.want = append(row.want, row.want[len(row.want)-1])
		}
		shows(t, d, 0, row.want)
	}
}

func TestP4_4WritesOfSeveralBlocksMixed(t *testing.T) {
	d := fresh(t, 2)
	d.Write(0, full(1))
	d.Write(1, full(2))
	d.Write(0, full(3))
	d.Write(1, full(4))
	d.Crash(9, 8, 7, 6)
	d.Start()
	shows(t, d, 0, append(torn(7, 3, 1)[:9:9], full(0)[9:]...))
	shows(t, d, 1, append(torn(6, 4, 2)[:8:8], full(0)[8:]...))
}

func TestP4_4CrashOfOneThatIsDown(t *testing.T) {
	d := fresh(t, 1)
	d.Write(0, full(1))
	d.Crash(2)
	for range 2 {
		want(t, "Crash again", d.Crash(api.BlockSize), api.OK)
		stands(t, d, true, 0)
	}
	d.Start()
	shows(t, d, 0, torn(2, 1, 0))
	d.Arm(2)
	d.Write(0, full(3))
	d.Write(0, full(4))
	stands(t, d, true, 2)
	want(t, "Crash of one that a hit took down", d.Crash(4, 1), api.OK)
	stands(t, d, true, 0)
	d.Start()
	shows(t, d, 0, append(torn(1, 4, 3)[:4:4], full(0)[4:]...))
}

func TestP4_4CrashWithNothingThatWaits(t *testing.T) {
	d := fresh(t, 1)
	d.Write(0, full(1))
	d.Sync()
	want(t, "Crash", d.Crash(1, 2, 3), api.OK)
	stands(t, d, true, 0)
	want(t, "Start", d.Start(), api.OK)
	shows(t, d, 0, full(1))
}

func TestP4_4StartLosesWhatWaits(t *testing.T) {
	d := fresh(t, 2)
	d.Write(0, full(1))
	d.Sync()
	d.Write(0, full(2))
	d.Arm(1)
	d.Write(1, full(3))
	stands(t, d, true, 2)
	want(t, "Start", d.Start(), api.OK)
	stands(t, d, false, 0)
	shows(t, d, 0, full(1))
	shows(t, d, 1, full(0))
	d.Sync()
	d.Crash(api.BlockSize, api.BlockSize)
	d.Start()
	shows(t, d, 0, full(1))
	shows(t, d, 1, full(0))
}

func TestP4_4StartOfOneThatIsUp(t *testing.T) {
	d := fresh(t, 2)
	d.Write(0, full(1))
	for range 2 {
		want(t, "Start", d.Start(), api.OK)
		stands(t, d, false, 1)
		shows(t, d, 0, full(1))
	}
	d.Sync()
	d.Crash()
	d.Start()
	want(t, "Start again", d.Start(), api.OK)
	stands(t, d, false, 0)
	shows(t, d, 0, full(1))
}

// What is handed in stays, with the room behind its end, and is not kept.
func TestR3WhatIsHandedIn(t *testing.T) {
	d := fresh(t, 1)
	b := append(full(1), full(7)...)
	d.Write(0, b[:api.BlockSize])
	if !bytes.Equal(b, append(full(1), full(7)...)) {
		t.Fatalf("Write has changed what was handed in: %x", b)
	}
	for i := range b {
		b[i] = 99
	}
	shows(t, d, 0, full(1))
	keep := []int{-5, math.MaxInt, 3, 99}
	d.Write(0, full(2))
	d.Crash(keep[:2]...)
	if keep[0] != -5 || keep[1] != math.MaxInt || keep[2] != 3 || keep[3] != 99 {
		t.Errorf("Crash has changed its numbers: %v", keep)
	}
	d.Start()
	shows(t, d, 0, full(2))
}

// What is handed out is nobody else's, waiting or kept.
func TestR3WhatIsHandedOut(t *testing.T) {
	d := fresh(t, 1)
	spoil := func() {
		b, _ := d.Read(0)
		c, _ := d.Read(0)
		for i := range b {
			b[i] = 99
		}
		_ = append(b, 99)
		if !bytes.Equal(c, full(1)) {
			t.Errorf("two Reads share memory: %x", c)
		}
	}
	d.Write(0, full(1))
	spoil()
	f := d.Fork()
	shows(t, d, 0, full(1))
	d.Sync()
	spoil()
	shows(t, d, 0, full(1))
	d.Crash()
	d.Start()
	shows(t, d, 0, full(1))
	f.Crash(api.BlockSize)
	f.Start()
	shows(t, f, 0, full(1))
}
