package codec

import (
	"bytes"
	"encoding/binary"
	"encoding/hex"
	"hash/crc32"
	"math"
	"math/rand"
	"testing"

	"purse/api"
)

func told(b []byte) string { return hex.EncodeToString(b) }

func raw(t *testing.T, s string) []byte {
	t.Helper()
	b, err := hex.DecodeString(s)
	if err != nil {
		t.Fatal(err)
	}
	return b
}

// fill is n bytes, none like its neighbours, the same ones for the same n.
func fill(n int) []byte {
	b := make([]byte, n)
	rand.New(rand.NewSource(int64(n))).Read(b)
	return b
}

// numbers are those at which the count of bytes turns, and their neighbours.
func numbers() []uint64 {
	l := []uint64{0, 1, 2, 127, 128, 255, 256, 300, math.MaxUint64 - 1, math.MaxUint64}
	for k := range 64 {
		l = append(l, 1<<k-1, 1<<k, 1<<k+1)
	}
	return l
}

// ints are those at which the count of bytes turns, both signs.
func ints() []int {
	l := []int{math.MinInt, math.MinInt + 1, -1000, -1, 0, 1, 1000, math.MaxInt - 1, math.MaxInt}
	for k := range 63 {
		l = append(l, 1<<k-1, 1<<k, -1<<k, -1<<k-1)
	}
	return l
}

func frameOf(t *testing.T, b []byte) []byte {
	t.Helper()
	f, e := Frame(b)
	if e != api.OK {
		t.Fatalf("Frame of %d bytes: error %d", len(b), e)
	}
	return f
}

func TestP2_1NumExamples(t *testing.T) {
	rows := []struct {
		v    uint64
		want string
	}{
		{0, "00"},
		{1, "01"},
		{127, "7f"},
		{128, "8001"},
		{300, "ac02"},
		{1<<14 - 1, "ff7f"},
		{1 << 14, "808001"},
		{1<<63 - 1, "ffffffffffffffff7f"},
		{1 << 63, "80808080808080808001"},
		{math.MaxUint64, "ffffffffffffffffff01"},
	}
	for _, r := range rows {
		if got := told(Num(r.v)); got != r.want {
			t.Errorf("Num(%d): %s; want %s", r.v, got, r.want)
		}
	}
}

func TestP2_1NumAtEdges(t *testing.T) {
	for _, v := range numbers() {
		if got, want := Num(v), binary.AppendUvarint(nil, v); !bytes.Equal(got, want) {
			t.Fatalf("Num(%d): %x; want %x", v, got, want)
		}
	}
}

func TestP2_1IntExamples(t *testing.T) {
	rows := []struct {
		v    int
		want string
	}{
		{0, "00"},
		{-1, "01"},
		{1, "02"},
		{-2, "03"},
		{63, "7e"},
		{-64, "7f"},
		{64, "8001"},
		{-65, "8101"},
		{math.MaxInt, "feffffffffffffffff01"},
		{math.MinInt, "ffffffffffffffffff01"},
	}
	for _, r := range rows {
		if got := told(Int(r.v)); got != r.want {
			t.Errorf("Int(%d): %s; want %s", r.v, got, r.want)
		}
	}
}

func TestP2_1IntAtEdges(t *testing.T) {
	for _, v := range ints() {
		if got, want := Int(v), binary.AppendVarint(nil, int64(v)); !bytes.Equal(got, want) {
			t.Fatalf("Int(%d): %x; want %x", v, got, want)
		}
	}
}

func TestP2_1Text(t *testing.T) {
	rows := []struct{ b, want string }{
		{"", "00"},
		{"ab", "026162"},
		{"\x00", "0100"},
		{"\x80\xff", "0280ff"},
	}
	for _, r := range rows {
		if got := told(Text([]byte(r.b))); got != r.want {
			t.Errorf("Text(%q): %s; want %s", r.b, got, r.want)
		}
	}
	if got := told(Text(nil)); got != "00" {
		t.Errorf("Text(nil): %s; want 00", got)
	}
	for _, n := range []int{127, 128, 300, api.MaxFrame + 1} {
		b := fill(n)
		want := append(binary.AppendUvarint(nil, uint64(n)), b...)
		if got := Text(b); !bytes.Equal(got, want) {
			t.Errorf("Text of %d bytes: %d bytes, not its length and they", n, len(got))
		}
	}
}

func TestP2_1Sum(t *testing.T) {
	rows := []struct {
		b    string
		want uint32
	}{
		{"", 0},
		{"\x00", 0xD202EF8D},
		{"a", 0xE8B7BE43},
		{"123456789", 0xCBF43926},
		{"\x00\x00\x00\x00", 0x2144DF1C},
		{"\xff\xff\xff\xff", 0xFFFFFFFF},
	}
	for _, r := range rows {
		if got := Sum([]byte(r.b)); got != r.want {
			t.Errorf("Sum(%q): %08x; want %08x", r.b, got, r.want)
		}
	}
	for x := range 256 {
		b := []byte{byte(x)}
		if got, want := Sum(b), crc32.ChecksumIEEE(b); got != want {
			t.Fatalf("Sum(%x): %08x; want %08x", b, got, want)
		}
	}
	for n := range 300 {
		b := fill(n)
		if got, want := Sum(b), crc32.ChecksumIEEE(b); got != want {
			t.Fatalf("Sum of %d bytes: %08x; want %08x", n, got, want)
		}
	}
}

func TestP2_1Frame(t *testing.T) {
	for _, n := range []int{0, 1, 2, 255, 256, 257, 65535, api.MaxFrame} {
		b := fill(n)
		size := binary.LittleEndian.AppendUint32(nil, uint32(n))
		sum := crc32.ChecksumIEEE(append(bytes.Clone(size), b...))
		want := append(binary.LittleEndian.AppendUint32(size, sum), b...)
		if got, e := Frame(b); e != api.OK || !bytes.Equal(got, want) {
			t.Errorf("Frame of %d bytes: %x.., error %d; want %x..", n, got[:min(8, len(got))], e, want[:8])
		}
	}
	if got, e := Frame(nil); e != api.OK || told(got) != "000000001cdf4421" {
		t.Errorf("Frame(nil): %x, error %d", got, e)
	}
}

func TestP2_1FrameOfTooMuch(t *testing.T) {
	for _, n := range []int{api.MaxFrame + 1, api.MaxFrame + 2, 2 * api.MaxFrame, 1 << 20} {
		if got, e := Frame(make([]byte, n)); e != api.ErrLong || len(got) != 0 {
			t.Errorf("Frame of %d bytes: %d bytes, error %d; want none, error 22", n, len(got), e)
		}
	}
}

func TestP2_2UnframeWithBytesBehind(t *testing.T) {
	for _, n := range []int{0, 1, 2, 300, api.MaxFrame} {
		b := fill(n)
		f := frameOf(t, b)
		for _, behind := range [][]byte{nil, {7}, f, fill(9)} {
			got, size, e := Unframe(append(bytes.Clone(f), behind...))
			if e != api.OK || size != len(f) || !bytes.Equal(got, b) {
				t.Errorf("Unframe of a frame of %d, %d behind it: %d bytes, %d, error %d", n, len(behind), len(got), size, e)
			}
		}
	}
}

func refused(t *testing.T, what string, b []byte, want api.Errno) {
	t.Helper()
	if got, n, e := Unframe(b); e != want || n != 0 || len(got) != 0 {
		t.Fatalf("Unframe of %s: %d bytes, %d, error %d; want error %d", what, len(got), n, e, want)
	}
}

func TestP2_2UnframeOfTooFewBytes(t *testing.T) {
	for _, n := range []int{0, 1, 2, 300} {
		f := frameOf(t, fill(n))
		for k := range f {
			refused(t, "a frame that ends early", f[:k], api.ErrShort)
		}
	}
	refused(t, "nil", nil, api.ErrShort)
}

func TestP2_2UnframeOfWrongSizes(t *testing.T) {
	rows := []struct {
		says uint32
		e    api.Errno
	}{
		{api.MaxFrame + 1, api.ErrLong},
		{1 << 24, api.ErrLong},
		{1 << 31, api.ErrLong},
		{math.MaxUint32, api.ErrLong},
		{math.MaxUint32 - 7, api.ErrLong},
		{api.MaxFrame, api.ErrShort},
		{2, api.ErrShort},
		{1, api.ErrSum},
		{0, api.ErrSum},
	}
	for _, r := range rows {
		b := binary.LittleEndian.AppendUint32(nil, r.says)
		refused(t, "a size alone", append(b, 1, 2, 3, 4, 5), r.e)
		refused(t, "seven bytes", append(b, 1, 2, 3), api.ErrShort)
	}
	// The size counts ahead of what is there, though all of it is there.
	long := binary.LittleEndian.AppendUint32(nil, api.MaxFrame+1)
	refused(t, "one byte too many", append(long, make([]byte, api.MaxFrame+100)...), api.ErrLong)
	f := frameOf(t, []byte("ab"))
	f[0] = 1
	refused(t, "a frame that says less", f, api.ErrSum)
	// The sum is over the size, too.
	alone := binary.LittleEndian.AppendUint32([]byte{2, 0, 0, 0}, crc32.ChecksumIEEE([]byte("ab")))
	refused(t, "a frame with the sum of the bytes alone", append(alone, "ab"...), api.ErrSum)
}

func TestP2_2UnframeWithBytesTurned(t *testing.T) {
	f := frameOf(t, []byte("purse"))
	for i := 4; i < len(f); i++ {
		for x := 1; x < 256; x++ {
			bad := bytes.Clone(f)
			bad[i] ^= byte(x)
			refused(t, "a frame with a byte turned", bad, api.ErrSum)
		}
	}
}

func TestFollowsFramesBeginWithThemselves(t *testing.T) {
	var all [][]byte
	for n := range 40 {
		all = append(all, frameOf(t, fill(n)), frameOf(t, make([]byte, n)))
	}
	for i, a := range all {
		for j, b := range all {
			if len(a) < len(b) && bytes.HasPrefix(b, a) {
				t.Fatalf("the frame %d begins with the frame %d", j, i)
			}
		}
	}
}

func TestFollowsTurnedSumsAreRefused(t *testing.T) {
	f := frameOf(t, []byte("some bytes"))
	random := rand.New(rand.NewSource(1))
	for k := range 1000 {
		turn := random.Uint32()
		if k < 32 {
			turn = 1 << k
		}
		if turn == 0 {
			continue
		}
		bad := bytes.Clone(f)
		sum := binary.LittleEndian.Uint32(bad[4:])
		binary.LittleEndian.PutUint32(bad[4:], sum^turn)
		refused(t, "a frame whose sum is turned", bad, api.ErrSum)
	}
}

func TestFollowsNeighbouringBitsTurnedAreRefused(t *testing.T) {
	f := frameOf(t, fill(40))
	bits := 8 * (len(f) - head)
	random := rand.New(rand.NewSource(2))
	for first := range bits - 31 {
		for try := range 40 {
			turn := random.Uint32()
			if try < 32 {
				turn = 1 << try
			}
			bad := bytes.Clone(f)
			for k := range 32 {
				at := first + k
				bad[head+at/8] ^= byte(turn>>k&1) << (at % 8)
			}
			if turn != 0 {
				refused(t, "a frame with neighbouring bits turned", bad, api.ErrSum)
			}
		}
	}
}

// roomy is b with other bytes in the room behind its end; the call gives the
// whole, to be held against what it was.
func roomy(b []byte) ([]byte, func() bool) {
	whole := append(bytes.Clone(b), 0xA5, 0x5A, 0xA5, 0x5A, 0xA5, 0x5A, 0xA5, 0x5A, 0xA5, 0x5A)
	was := bytes.Clone(whole)
	return whole[:len(b)], func() bool { return bytes.Equal(whole, was) }
}

func TestP2_1WhatIsHandedInStays(t *testing.T) {
	f := frameOf(t, []byte("ab"))
	calls := []struct {
		name string
		in   []byte
		call func(b []byte) []byte
	}{
		{"Text", []byte("ab"), Text},
		{"Text of nothing", nil, Text},
		{"Sum", []byte("ab"), func(b []byte) []byte { Sum(b); return nil }},
		{"Frame", []byte("ab"), func(b []byte) []byte { f, _ := Frame(b); return f }},
		{"Frame of nothing", nil, func(b []byte) []byte { f, _ := Frame(b); return f }},
		{"Unframe", f, func(b []byte) []byte { v, _, _ := Unframe(b); return v }},
		{"Unframe of less", f[:9], func(b []byte) []byte { v, _, _ := Unframe(b); return v }},
		{"New and Text", Text([]byte("ab")), func(b []byte) []byte { return New(b).Text(9) }},
	}
	for _, c := range calls {
		b, same := roomy(c.in)
		out := c.call(b)
		if !same() {
			t.Errorf("%s changes what is handed in", c.name)
		}
		was := bytes.Clone(out)
		for i := range b {
			b[i] ^= 0xFF
		}
		if !bytes.Equal(out, was) {
			t.Errorf("%s hands out what was handed in", c.name)
		}
		b, same = roomy(c.in)
		out = c.call(b)
		for i := range out {
			out[i] ^= 0xFF
		}
		_ = append(out, 1, 2, 3)
		if !same() {
			t.Errorf("what %s hands out shares memory with what is handed in", c.name)
		}
	}
}
