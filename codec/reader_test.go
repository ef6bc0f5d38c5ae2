package codec

import (
	"bytes"
	"encoding/binary"
	"math"
	"math/rand"
	"strings"
	"testing"

	"purse/api"
)

// readings are all calls that read: whether they answer their zero value.
var readings = []struct {
	name string
	zero func(r *Reader) bool
}{
	{"Num", func(r *Reader) bool { return r.Num() == 0 }},
	{"Int", func(r *Reader) bool { return r.Int() == 0 }},
	{"Byte", func(r *Reader) bool { return r.Byte() == 0 }},
	{"Flag", func(r *Reader) bool { return !r.Flag() }},
	{"Text", func(r *Reader) bool { return len(r.Text(math.MaxInt)) == 0 }},
	{"Count", func(r *Reader) bool { return r.Count(math.MaxInt) == 0 }},
}

// reading makes one call of a reader, and tells whether it answers zero.
func reading(r *Reader, what string, most int) bool {
	switch what {
	case "num":
		return r.Num() == 0
	case "int":
		return r.Int() == 0
	case "byte":
		return r.Byte() == 0
	case "flag":
		return !r.Flag()
	case "text":
		return len(r.Text(most)) == 0
	default:
		return r.Count(most) == 0
	}
}

func TestP2_3AFreshReader(t *testing.T) {
	for _, n := range []int{0, 1, 300, api.MaxFrame + 1} {
		r := New(fill(n))
		if e, at := r.Fault(); r.Left() != n || e != api.OK || at != 0 {
			t.Errorf("a reader of %d bytes: %d left, error %d at %d", n, r.Left(), e, at)
		}
	}
	if r := New(nil); r == nil || r.End() != api.OK {
		t.Error("New(nil) is no reader of no bytes")
	}
}

func TestP2_3Numbers(t *testing.T) {
	for _, v := range numbers() {
		r := New(append(Num(v), 0xEE))
		if got := r.Num(); got != v || r.Left() != 1 {
			t.Fatalf("Num of %x: %d, %d left; want %d, 1", Num(v), got, r.Left(), v)
		}
		if e, at := r.Fault(); e != api.OK || at != 0 {
			t.Fatalf("Num of %x: error %d at %d", Num(v), e, at)
		}
	}
	for _, v := range ints() {
		r := New(append(Int(v), 0xEE))
		if got := r.Int(); got != v || r.Left() != 1 || r.End() != api.ErrLeft {
			t.Fatalf("Int of %x: %d, %d left; want %d, 1", Int(v), got, r.Left(), v)
		}
	}
}

func TestP2_3ThingsInARow(t *testing.T) {
	r := New(raw(t, "ac02"+"01"+"01"+"00"+"ff"+"026162"+"00"+"05"+"ffffffffffffffffff01"))
	if v := r.Num(); v != 300 {
		t.Errorf("Num: %d; want 300", v)
	}
	if v := r.Int(); v != -1 {
		t.Errorf("Int: %d; want -1", v)
	}
	if yes, no := r.Flag(), r.Flag(); !yes || no {
		t.Errorf("Flags: %v, %v; want true, false", yes, no)
	}
	if v := r.Byte(); v != 0xFF {
		t.Errorf("Byte: %x; want ff", v)
	}
	if v := r.Text(2); string(v) != "ab" {
		t.Errorf("Text(2): %q; want ab", v)
	}
	if v := r.Text(0); len(v) != 0 {
		t.Errorf("Text(0): %q; want none", v)
	}
	if v := r.Count(5); v != 5 {
		t.Errorf("Count(5): %d; want 5", v)
	}
	if v := r.Int(); v != math.MinInt {
		t.Errorf("Int: %d; want the least", v)
	}
	if e, at := r.Fault(); r.Left() != 0 || e != api.OK || at != 0 || r.End() != api.OK {
		t.Errorf("at the end: %d left, error %d at %d", r.Left(), e, at)
	}
}

func TestP2_3Faults(t *testing.T) {
	nine := strings.Repeat("80", 9)
	rows := []struct {
		b    string
		what string
		most int
		e    api.Errno
	}{
		// The last byte is 0, and not the only one.
		{"8000", "num", 0, api.ErrForm},
		{"8000ff", "num", 0, api.ErrForm},
		{"808000", "num", 0, api.ErrForm},
		{"ac8200", "num", 0, api.ErrForm},
		{nine + "00", "num", 0, api.ErrForm},
		{"8000", "int", 0, api.ErrForm},
		{"8000", "count", 9, api.ErrForm},
		{"8000", "text", 9, api.ErrForm},
		// The tenth byte is above 1, with and without a next one.
		{nine + "02", "num", 0, api.ErrForm},
		{nine + "03", "num", 0, api.ErrForm},
		{nine + "7f", "num", 0, api.ErrForm},
		{nine + "80", "num", 0, api.ErrForm},
		{nine + "81", "num", 0, api.ErrForm},
		{nine + "8001", "num", 0, api.ErrForm},
		{nine + "8100", "num", 0, api.ErrForm},
		{"ffffffffffffffffffff01", "num", 0, api.ErrForm},
		{"ffffffffffffffffff02", "int", 0, api.ErrForm},
		{"ffffffffffffffffff02", "count", math.MaxInt, api.ErrForm},
		{"ffffffffffffffffff02", "text", math.MaxInt, api.ErrForm},
		// The bytes end.
		{"", "num", 0, api.ErrShort},
		{"80", "num", 0, api.ErrShort},
		{nine, "num", 0, api.ErrShort},
		{"", "int", 0, api.ErrShort},
		{"ff", "int", 0, api.ErrShort},
		{"", "byte", 0, api.ErrShort},
		{"", "flag", 0, api.ErrShort},
		{"", "text", 9, api.ErrShort},
		{"80", "text", 9, api.ErrShort},
		{"", "count", 9, api.ErrShort},
		{"80", "count", 9, api.ErrShort},
		// No flag.
		{"02", "flag", 0, api.ErrForm},
		{"80", "flag", 0, api.ErrForm},
		{"ff", "flag", 0, api.ErrForm},
		// Texts.
		{"01", "text", 1, api.ErrShort},
		{"0561", "text", 9, api.ErrShort},
		{"0561", "text", 5, api.ErrShort},
		{"0561", "text", 4, api.ErrLong},
		{"0161", "text", 0, api.ErrLong},
		{"0161", "text", -1, api.ErrLong},
		{"0161", "text", math.MinInt, api.ErrLong},
		{"ffffffffffffffffff0161", "text", math.MaxInt, api.ErrLong},
		{"8080808080808080800161", "text", math.MaxInt, api.ErrLong},
		{"ffffffffffffffff7f61", "text", math.MaxInt, api.ErrShort},
		{"ffffffffffffffff7f61", "text", math.MaxInt - 1, api.ErrLong},
		// Counts.
		{"01", "count", 0, api.ErrLong},
		{"01", "count", -5, api.ErrLong},
		{"01", "count", math.MinInt, api.ErrLong},
		{"06", "count", 5, api.ErrLong},
		{"80808080808080808001", "count", math.MaxInt, api.ErrLong},
		{"ffffffffffffffffff01", "count", math.MaxInt, api.ErrLong},
	}
	for _, x := range rows {
		for _, ahead := range []int{0, 1, 3} {
			b := append(make([]byte, ahead), raw(t, x.b)...)
			r := New(b)
			for range ahead {
				r.Byte()
			}
			zero := reading(r, x.what, x.most)
			if e, at := r.Fault(); !zero || e != x.e || at != ahead || r.Left() != len(b)-ahead {
				t.Errorf("%s(%d) of %s behind %d: zero %v, error %d at %d, %d left; want error %d at %d",
					x.what, x.most, x.b, ahead, zero, e, at, r.Left(), x.e, ahead)
			}
		}
	}
}

func TestP2_3MostTakesAllUpToIt(t *testing.T) {
	for _, n := range []int{0, 1, 5, 127, 128, 300} {
		b := fill(n)
		for _, most := range []int{n, n + 1, math.MaxInt} {
			if r := New(Text(b)); !bytes.Equal(r.Text(most), b) || r.End() != api.OK {
				t.Errorf("Text(%d) of a text of %d: error %d", most, n, r.End())
			}
			if r := New(Num(uint64(n))); r.Count(most) != n || r.End() != api.OK {
				t.Errorf("Count(%d) of %d: error %d", most, n, r.End())
			}
		}
	}
	if r := New(Num(math.MaxInt)); r.Count(math.MaxInt) != math.MaxInt || r.End() != api.OK {
		t.Errorf("Count of the greatest int: error %d", r.End())
	}
	if r := New([]byte{0}); r.Count(-1) != 0 || r.End() != api.OK {
		t.Errorf("Count(-1) of 0: error %d", r.End())
	}
	if r := New([]byte{0}); len(r.Text(math.MinInt)) != 0 || r.End() != api.OK {
		t.Errorf("Text of the least int, of no bytes: error %d", r.End())
	}
}

func TestP2_3BytesThatEndAtEachPlace(t *testing.T) {
	for _, v := range numbers() {
		b := Num(v)
		for k := range b {
			r := New(b[:k])
			if got := r.Num(); got != 0 || r.End() != api.ErrShort || r.Left() != k {
				t.Fatalf("Num of %x, cut to %d: %d, error %d, %d left", b, k, got, r.End(), r.Left())
			}
		}
	}
	b := Text(fill(200))
	for k := range b {
		r := New(b[:k])
		if got := r.Text(200); len(got) != 0 || r.End() != api.ErrShort || r.Left() != k {
			t.Fatalf("Text cut to %d: %d bytes, error %d, %d left", k, len(got), r.End(), r.Left())
		}
	}
}

func TestP2_3TheReaderHasACopy(t *testing.T) {
	b, _ := roomy(raw(t, "ac02026162"))
	r := New(b)
	clear(b[:cap(b)])
	if n, s := r.Num(), r.Text(9); n != 300 || string(s) != "ab" {
		t.Errorf("a reader whose bytes are cleared reads %d, %q; want 300, ab", n, s)
	}
	b, same := roomy(raw(t, "016101620163"))
	r = New(b)
	first := r.Text(9)
	first[0] = 'x'
	_ = append(first, 7, 7, 7, 7)
	second := r.Text(9)
	if string(second) != "b" || string(r.Text(9)) != "c" || string(first) != "x" || !same() {
		t.Error("what Text hands out shares memory with the reader or with its bytes")
	}
}

func TestP2_4BehindTheFirstFault(t *testing.T) {
	faults := []struct {
		name string
		b    string
		make func(r *Reader)
		e    api.Errno
	}{
		{"a number", "8000", func(r *Reader) { r.Num() }, api.ErrForm},
		{"a flag", "0201", func(r *Reader) { r.Flag() }, api.ErrForm},
		{"a text", "05016161", func(r *Reader) { r.Text(9) }, api.ErrShort},
		{"a long text", "0101", func(r *Reader) { r.Text(0) }, api.ErrLong},
		{"a count", "0701", func(r *Reader) { r.Count(6) }, api.ErrLong},
		{"the end", "", func(r *Reader) { r.Byte() }, api.ErrShort},
	}
	for _, f := range faults {
		for _, next := range readings {
			b := append([]byte{1, 1}, raw(t, f.b)...)
			r := New(b)
			r.Num()
			r.Num()
			f.make(r)
			for range 2 {
				if !next.zero(r) {
					t.Errorf("%s behind %s at fault answers something", next.name, f.name)
				}
				if e, at := r.Fault(); e != f.e || at != 2 || r.End() != f.e || r.Left() != len(b)-2 {
					t.Errorf("%s behind %s at fault: error %d at %d, End %d, %d left; want error %d at 2",
						next.name, f.name, e, at, r.End(), r.Left(), f.e)
				}
			}
		}
	}
}

func TestP2_4TheFirstFaultStays(t *testing.T) {
	r := New(raw(t, "0005"))
	r.Num()
	r.Flag()
	r.Count(4)
	r.Text(4)
	if e, at := r.Fault(); e != api.ErrForm || at != 1 {
		t.Errorf("Fault: error %d at %d; want 21 at 1", e, at)
	}
}

func TestP2_4End(t *testing.T) {
	r := New([]byte{1, 2})
	for left := 2; left > 0; left-- {
		if e := r.End(); e != api.ErrLeft || r.Left() != left {
			t.Errorf("End with %d left: error %d, %d left; want 24", left, e, r.Left())
		}
		if e, at := r.Fault(); e != api.OK || at != 0 {
			t.Errorf("behind End the reader has a fault: error %d at %d", e, at)
		}
		r.Byte()
	}
	if e := r.End(); e != api.OK {
		t.Errorf("End at the end: error %d", e)
	}
	if r.Byte(); r.End() != api.ErrShort {
		t.Errorf("End behind a byte that is not there: error %d; want 20", r.End())
	}
}

func TestP2_5ANilReader(t *testing.T) {
	var r *Reader
	for _, x := range readings {
		if !x.zero(r) {
			t.Errorf("%s of a nil reader answers something", x.name)
		}
	}
	if e, at := r.Fault(); e != api.ErrNil || at != 0 || r.End() != api.ErrNil || r.Left() != 0 {
		t.Errorf("a nil reader: error %d at %d, End %d, %d left; want 2 at 0, 2, 0", e, at, r.End(), r.Left())
	}
}

// TestFollowsWhatIsReadIsWrittenAgain reads arbitrary bytes: what is taken,
// written again, is the bytes that were taken.
func TestFollowsWhatIsReadIsWrittenAgain(t *testing.T) {
	random := rand.New(rand.NewSource(3))
	for range 200000 {
		b := make([]byte, random.Intn(14))
		random.Read(b)
		for i := range b {
			switch random.Intn(4) {
			case 0:
				b[i] |= 0x80
			case 1:
				b[i] &= 3
			}
		}
		reads := []func(r *Reader) []byte{
			func(r *Reader) []byte { return Num(r.Num()) },
			func(r *Reader) []byte { return Int(r.Int()) },
			func(r *Reader) []byte { return Text(r.Text(12)) },
			func(r *Reader) []byte { return Num(uint64(r.Count(math.MaxInt))) },
			func(r *Reader) []byte { return []byte{r.Byte()} },
		}
		for i, read := range reads {
			r := New(b)
			w := read(r)
			e, _ := r.Fault()
			if e == api.OK && !bytes.Equal(w, b[:len(b)-r.Left()]) {
				t.Fatalf("reading %d of %x, written again: %x", i, b, w)
			}
			if e != api.OK && r.Left() != len(b) {
				t.Fatalf("reading %d of %x is at fault, and has moved", i, b)
			}
		}
		v, n := binary.Uvarint(b)
		r := New(b)
		if got := r.Num(); n > 0 && bytes.Equal(Num(v), b[:n]) && (got != v || r.Left() != len(b)-n) {
			t.Fatalf("Num of %x: %d, %d left; want %d", b, got, r.Left(), v)
		}
	}
}

func TestFollowsWhatIsWrittenIsRead(t *testing.T) {
	random := rand.New(rand.NewSource(4))
	for range 20000 {
		v, i, s := random.Uint64()>>random.Intn(64), int(random.Uint64())>>random.Intn(64), fill(random.Intn(40))
		b := append(append(append(Num(v), Int(i)...), Text(s)...), 1)
		b, _, e := Unframe(frameOf(t, b))
		r := New(b)
		gv, gi, gs, flag := r.Num(), r.Int(), r.Text(40), r.Flag()
		if e != api.OK || gv != v || gi != i || !bytes.Equal(gs, s) || !flag || r.End() != api.OK {
			t.Fatalf("%d, %d, %x are read as %d, %d, %x, error %d", v, i, s, gv, gi, gs, r.End())
		}
	}
}
