package wire

import (
	"bytes"
	"encoding/binary"
	"encoding/hex"
	"math"
	"math/rand"
	"reflect"
	"runtime"
	"strings"
	"testing"

	"purse/api"
)

// raw is the bytes that some words of hexadecimal digits are.
func raw(t *testing.T, s string) []byte {
	t.Helper()
	b, err := hex.DecodeString(strings.Join(strings.Fields(s), ""))
	if err != nil {
		t.Fatal(err)
	}
	return b
}

// holds writes v, and reads what it is written as, both held against words.
func holds(t *testing.T, name string, v any, want string) {
	t.Helper()
	for _, k := range kinds() {
		if k.name != name {
			continue
		}
		b, e := k.write(v)
		if e != api.OK || !bytes.Equal(b, raw(t, want)) {
			t.Errorf("%s: %x, error %d; want %x", name, b, e, raw(t, want))
		}
		r, e := k.read(raw(t, want))
		if e != api.OK || !same(r, v) {
			t.Errorf("Read%s: %+v, error %d; want %+v", name, r, e, v)
		}
	}
}

func TestP3_1Examples(t *testing.T) {
	holds(t, "Command", api.Command{}, strings.Repeat("00", 25))
	holds(t, "Note", api.Note{Kind: 1, Group: 2, Ballot: api.Ballot{Round: 3, Node: 1}}, "02040602"+strings.Repeat("00", 12))
}

func TestP3_2Examples(t *testing.T) {
	if c, e := ReadCommand(make([]byte, 25)); e != api.OK || !same(c, api.Command{}) {
		t.Errorf("25 bytes of 0: %+v, error %d; want the zero command", c, e)
	}
	command := kinds()[0]
	command.refuses(t, "24 bytes of 0", make([]byte, 24), api.ErrShort)
	command.refuses(t, "26 bytes of 0", make([]byte, 26), api.ErrLeft)
}

func TestP3_1TheZeroThings(t *testing.T) {
	sizes := map[string]int{"Command": 25, "Letter": 14, "Note": 16, "State": 29, "Chart": 12}
	for _, k := range kinds() {
		holds(t, k.name, k.zero(), strings.Repeat("00", sizes[k.name]))
	}
}

func TestP3_1ACommandByHand(t *testing.T) {
	holds(t, "Command", api.Command{
		Kind: 1, Client: 2, Seq: 3, Epoch: 4, Node: 5, Home: 6, Key: "k", Lease: 7, Round: 8, Net: -9, Yes: true,
		Op:    api.Op{Kind: 10, Key: "ab", Other: "c", N: 11, Lo: -12, Hi: 13},
		Plan:  api.Plan{Number: 14, From: 15, To: 16, Lo: "d", Hi: "ef", Client: 17, Seq: 64},
		Image: []byte{0, 255, 7},
	}, "02 04 06 08 0a 0c 016b 0e 10 11 01"+
		"14 026162 0163 16 17 1a"+
		"1c 1e 20 0164 026566 22 8001"+
		"03 00ff07")
}

func TestP3_1ALetterByHand(t *testing.T) {
	holds(t, "Letter", post{-4, api.Letter{
		Kind: 1, From: 2, To: 3, Ballot: api.Ballot{Round: 4, Node: 5}, Slot: 6, Commit: 7,
		Votes: []api.Vote{
			{Slot: 8, Ballot: api.Ballot{Round: 9, Node: 10}, Value: []byte("v")},
			{Slot: 11, Ballot: api.Ballot{Round: 12, Node: 13}},
		},
		Entries: []api.Entry{{Slot: 14, Value: []byte("xy")}},
		Piece:   api.Piece{At: 15, Of: 16, Sum: math.MaxUint32, Data: []byte{1}},
	}}, "07 02 04 06 08 0a 0c 0e"+
		"02 10 12 14 0176 16 18 1a 00"+
		"01 1c 027879"+
		"1e 20 ffffffff0f 0101")
}

func TestP3_1ANoteByHand(t *testing.T) {
	holds(t, "Note", api.Note{
		Kind: 1, Group: 2, Ballot: api.Ballot{Round: 3, Node: 4},
		Vote:   api.Vote{Slot: 5, Ballot: api.Ballot{Round: 6, Node: 7}, Value: []byte("v")},
		Entry:  api.Entry{Slot: 8, Value: []byte("en")},
		Right:  api.Right{Group: 9, Key: "k", Lease: 10, Net: -11},
		Client: 12, Seq: 13,
	}, "02 04 06 08"+
		"0a 0c 0e 0176"+
		"10 02656e"+
		"12 016b 14 15"+
		"18 1a")
}

func TestP3_1AStateByHand(t *testing.T) {
	holds(t, "State", api.State{
		Group: 1, Index: 2, Owns: true, Lo: "l", Hi: "hi", Epoch: 3,
		Accounts: []api.Account{
			{
				Key: "a", Span: api.Span{Lo: -4, Hi: 5}, Base: 6, Round: 7,
				Holders: []api.Holder{{Node: 8, Lease: 9, Up: 10, Down: 11}},
				Lock:    api.Lock{Client: 12, Seq: 13, Home: 14, N: -15},
			},
			{Key: "b"},
		},
		Marks:    []api.Mark{{Client: 16, Seq: 17, Open: true, Answer: api.Answer{Err: 150, Value: 18, Least: 19, Most: 20}}},
		Waits:    []api.Wait{{Kind: 21, Client: 22, Seq: 23, Node: 24, Home: 25, Op: api.Op{Kind: 26, Key: "w", Other: "x", N: 27, Lo: 28, Hi: 29}}},
		Deals:    []api.Deal{{Client: 30, Seq: 31, Key: "d", Other: "e", N: 32, Mine: 33, Theirs: 34, Fate: 35}},
		Ends:     []api.End{{Client: 36, Seq: 37}},
		Seal:     api.Plan{Number: 38, From: 39, To: 40, Lo: "s", Hi: "t", Client: 41, Seq: 42},
		Out:      api.Plan{Number: 43, From: 44, To: 45, Lo: "o", Hi: "p", Client: 46, Seq: 47},
		Image:    []byte("im"),
		Absorbed: 48, Refused: 49, Undone: 50,
	}, "02 04 01 016c 026869 06"+
		"02 0161 07 0a 0c 0e 01 10 12 14 16 18 1a 1c 1d"+
		"0162 00 00 00 00 00 00 00 00 00"+
		"01 20 22 01 ac02 24 26 28"+
		"01 2a 2c 2e 30 32 34 0177 0178 36 38 3a"+
		"01 3c 3e 0164 0165 40 42 44 46"+
		"01 48 4a"+
		"4c 4e 50 0173 0174 52 54"+
		"56 58 5a 016f 0170 5c 5e"+
		"02696d"+
		"60 62 64")
}

func TestP3_1AChartByHand(t *testing.T) {
	holds(t, "Chart", api.Chart{
		Index:  1,
		Places: []api.Place{{Group: 2, From: "", Epoch: 3}, {Group: 4, From: "m", Epoch: 5}},
		Next:   6, Last: 7,
		Plan:  api.Plan{Number: 8, From: 9, To: 10, Lo: "l", Hi: "h", Client: 11, Seq: 12},
		Marks: []api.Mark{{Client: 13, Seq: 14, Open: true, Answer: api.Answer{Err: -1, Value: 15, Least: 16, Most: 17}}},
	}, "02"+
		"02 04 00 06 08 016d 0a"+
		"0c 0e"+
		"10 12 14 016c 0168 16 18"+
		"01 1a 1c 01 01 1e 20 22")
}

// TestP3_1EveryFieldSet holds things of which no two fields are alike against
// the order in which package api declares the fields.
func TestP3_1EveryFieldSet(t *testing.T) {
	for _, k := range kinds() {
		for items := range 4 {
			v := k.full(items)
			want, _ := plain(v)
			if b := k.mustWrite(t, v); !bytes.Equal(b, want) {
				t.Errorf("%s with lists of %d: %x; want %x", k.name, items, b, want)
			}
			if r, e := k.read(want); e != api.OK || !same(r, v) {
				t.Errorf("Read%s with lists of %d: %+v, error %d; want %+v", k.name, items, r, e, v)
			}
		}
	}
}

// TestP3_1AnyKindsAndNumbers: nothing but lengths is asked of a thing.
func TestP3_1AnyKindsAndNumbers(t *testing.T) {
	for _, k := range kinds() {
		for _, n := range []int64{math.MinInt64, math.MinInt64 + 1, -1, 0, 1, 1 << 62, math.MaxInt64} {
			v := reflect.New(k.of).Elem()
			next := 0
			fill(v, 2, &next)
			setInts(v, n)
			want, _ := plain(v.Interface())
			b := k.mustWrite(t, v.Interface())
			r, e := k.read(b)
			if !bytes.Equal(b, want) || e != api.OK || !same(r, v.Interface()) {
				t.Errorf("%s with all ints %d: %x, error %d; want %x", k.name, n, b, e, want)
			}
		}
	}
}

func setInts(v reflect.Value, n int64) {
	switch v.Kind() {
	case reflect.Int:
		v.SetInt(n)
	case reflect.Struct:
		for i := range v.NumField() {
			setInts(v.Field(i), n)
		}
	case reflect.Slice:
		for i := range v.Len() {
			setInts(v.Index(i), n)
		}
	}
}

func TestP3_1ListsAtTheirEdges(t *testing.T) {
	lists := 0
	for _, k := range kinds() {
		k.eachSpot(func(s spot, thing func() any) {
			if s.isText() {
				return
			}
			lists++
			for _, n := range []int{0, 1, 1023, 1024} {
				s.resize(n)
				want, _ := plain(thing())
				b := k.mustWrite(t, thing())
				r, e := k.read(b)
				if !bytes.Equal(b, want) || e != api.OK || !same(r, thing()) {
					t.Errorf("%s with %d elements in %s: %d bytes, error %d", k.name, n, s.path, len(b), e)
				}
			}
			for _, n := range []int{1025, 1026, 70000} {
				s.resize(n)
				k.tooLong(t, "too many elements in "+s.path, thing())
			}
		})
	}
	if lists != 2+6+2 {
		t.Errorf("%d lists were tried; want 10", lists)
	}
}

// TestP3_1TextsAtTheirEdges: a text of 65,535 bytes has the right length, but
// with its length's bytes it is above MaxFrame, as each longer one is.
func TestP3_1TextsAtTheirEdges(t *testing.T) {
	texts := 0
	for _, k := range kinds() {
		k.eachSpot(func(s spot, thing func() any) {
			if !s.isText() {
				return
			}
			texts++
			for _, n := range []int{0, 1, 127, 128, 16383, 16384, 65000} {
				s.resize(n)
				want, _ := plain(thing())
				b := k.mustWrite(t, thing())
				r, e := k.read(b)
				if !bytes.Equal(b, want) || e != api.OK || !same(r, thing()) {
					t.Errorf("%s with %d bytes in %s: %d bytes, error %d", k.name, n, s.path, len(b), e)
				}
			}
			for _, n := range []int{65535, 65536, 65537, 1 << 20} {
				s.resize(n)
				k.tooLong(t, "too many bytes in "+s.path, thing())
			}
		})
	}
	if texts < 20 {
		t.Errorf("%d texts were tried; want 20 or more", texts)
	}
}

// TestP3_1MaxFrame makes things of MaxFrame bytes and of one more, by each of
// their texts.
func TestP3_1MaxFrame(t *testing.T) {
	for _, k := range kinds() {
		k.eachSpot(func(s spot, thing func() any) {
			if !s.isText() {
				return
			}
			s.resize(65000)
			b, _ := plain(thing())
			n := 65000 + api.MaxFrame - len(b)
			s.resize(n)
			b = k.mustWrite(t, thing())
			r, e := k.read(b)
			if len(b) != api.MaxFrame || e != api.OK || !same(r, thing()) {
				t.Errorf("%s with %d bytes in %s: %d bytes, error %d; want MaxFrame", k.name, n, s.path, len(b), e)
			}
			k.refuses(t, "MaxFrame bytes and one more", append(b, 0), api.ErrLong)
			k.refuses(t, "MaxFrame bytes less one", b[:len(b)-1], api.ErrShort)
			s.resize(n + 1)
			k.tooLong(t, "one byte more than MaxFrame has in "+s.path, thing())
		})
	}
}

// TestP3_1MaxFrameByWhatStandsBehind: it is not the text alone that counts, but
// each field behind it.
func TestP3_1MaxFrameByWhatStandsBehind(t *testing.T) {
	c := api.Command{Key: string(make([]byte, api.MaxFrame-27)), Image: []byte{}}
	if b, e := Command(c); e != api.OK || len(b) != api.MaxFrame {
		t.Errorf("a command of MaxFrame bytes: %d bytes, error %d", len(b), e)
	}
	more := []func(c *api.Command){
		func(c *api.Command) { c.Net = 64 },
		func(c *api.Command) { c.Op.Hi = -65 },
		func(c *api.Command) { c.Plan.Hi = "h" },
		func(c *api.Command) { c.Image = []byte{0} },
	}
	for i, set := range more {
		d := c
		set(&d)
		kinds()[0].tooLong(t, "one byte more behind its key, by field "+string(rune('0'+i)), d)
	}
}

// TestP3_1WhatIsRefusedCostsLittle: of a thing that would be gigabytes no more
// is written than may be.
func TestP3_1WhatIsRefusedCostsLittle(t *testing.T) {
	value := make([]byte, 65535)
	votes := make([]api.Vote, 1024)
	for i := range votes {
		votes[i].Value = value
	}
	holders := make([]api.Holder, 1024)
	accounts := make([]api.Account, 1024)
	for i := range accounts {
		accounts[i].Holders = holders
	}
	cheaply(t, "votes of 64 MiB in all", func() {
		kinds()[1].tooLong(t, "votes of 64 MiB in all", post{1, api.Letter{Votes: votes}})
	})
	cheaply(t, "a million holders", func() {
		kinds()[3].tooLong(t, "a million holders", api.State{Accounts: accounts})
	})
	places := make([]api.Place, 1_000_000)
	cheaply(t, "a million places", func() {
		kinds()[4].tooLong(t, "a million places", api.Chart{Places: places})
	})
}

// cheaply runs something that may take some memory, but not much.
func cheaply(t *testing.T, what string, run func()) {
	t.Helper()
	var ahead, behind runtime.MemStats
	runtime.ReadMemStats(&ahead)
	run()
	runtime.ReadMemStats(&behind)
	if n := behind.TotalAlloc - ahead.TotalAlloc; n > 8<<20 {
		t.Errorf("%s: %d bytes of memory were taken; want a few times MaxFrame", what, n)
	}
}

func TestP3_2MoreThanMaxFrame(t *testing.T) {
	for _, k := range kinds() {
		for _, fill := range []byte{0, 1, 2, 0x80, 0xFF} {
			for _, n := range []int{api.MaxFrame + 1, api.MaxFrame + 2, 1 << 20} {
				k.refuses(t, "more than MaxFrame bytes", bytes.Repeat([]byte{fill}, n), api.ErrLong)
			}
		}
		k.refuses(t, "MaxFrame bytes of 0", make([]byte, api.MaxFrame), api.ErrLeft)
		k.refuses(t, "MaxFrame bytes with a flaw", bytes.Repeat([]byte{0xFF}, api.MaxFrame), api.ErrForm)
		k.refuses(t, "no bytes", nil, api.ErrShort)
	}
}

func TestP3_2BytesThatEndAtEachPlace(t *testing.T) {
	for _, k := range kinds() {
		for _, v := range []any{k.zero(), k.full(1), k.full(3)} {
			b := k.mustWrite(t, v)
			for n := range b {
				k.refuses(t, "bytes that end too early", b[:n], api.ErrShort)
			}
		}
	}
}

func TestP3_2BytesThatAreLeft(t *testing.T) {
	for _, k := range kinds() {
		for _, v := range []any{k.zero(), k.full(2)} {
			b := k.mustWrite(t, v)
			for _, tail := range [][]byte{{0}, {1}, {0xFF}, {0x80, 0}, make([]byte, 25)} {
				k.refuses(t, "bytes with some left", append(b[:len(b):len(b)], tail...), api.ErrLeft)
			}
			k.refuses(t, "a thing twice", append(b[:len(b):len(b)], b...), api.ErrLeft)
		}
	}
}

// eachPart runs for each field of a full thing, with the thing's bytes.
func eachPart(t *testing.T, run func(k kind, b []byte, p part)) {
	t.Helper()
	for _, k := range kinds() {
		b, parts := plain(k.full(2))
		for _, p := range parts {
			run(k, b, p)
		}
	}
}

func TestP3_2FlagsAboveOne(t *testing.T) {
	flags := 0
	eachPart(t, func(k kind, b []byte, p part) {
		if p.what != reflect.Bool {
			return
		}
		flags++
		k.refuses(t, "a flag 0 in "+p.path, swap(b, p.at, 1, 0), api.OK)
		for _, x := range []byte{2, 3, 0x7F, 0x80, 0x81, 0xFF} {
			k.refuses(t, "a flag above 1 in "+p.path, swap(b, p.at, 1, x), api.ErrForm)
			k.refuses(t, "a flag above 1 at the end, in "+p.path, append(b[:p.at:p.at], x), api.ErrForm)
		}
	})
	if flags != 1+1+2+2 {
		t.Errorf("%d flags were tried; want 6", flags)
	}
}

// TestP3_2NumbersThatAreNotTheShortest lengthens each number: of ints, of small
// ones, of texts' lengths, of lists' counts.
func TestP3_2NumbersThatAreNotTheShortest(t *testing.T) {
	eachPart(t, func(k kind, b []byte, p part) {
		if p.what == reflect.Bool {
			return
		}
		head := append([]byte{}, b[p.at:p.at+p.head]...)
		head[p.head-1] |= 0x80
		k.refuses(t, "a longer number in "+p.path, swap(b, p.at, p.head, append(head, 0)...), api.ErrForm)
		k.refuses(t, "a longer number in "+p.path, swap(b, p.at, p.head, append(head, 0x80, 0)...), api.ErrForm)
		k.refuses(t, "a 0 of two bytes in "+p.path, swap(b, p.at, p.size, 0x80, 0), api.ErrForm)
		ten := bytes.Repeat([]byte{0xFF}, 9)
		k.refuses(t, "a number above 2^64 - 1 in "+p.path, swap(b, p.at, p.size, append(ten, 2)...), api.ErrForm)
		k.refuses(t, "a number of eleven bytes in "+p.path, swap(b, p.at, p.size, append(ten, 0x81, 0)...), api.ErrForm)
	})
}

func TestP3_2ListsThatSayTooMuch(t *testing.T) {
	eachPart(t, func(k kind, b []byte, p part) {
		if p.what != reflect.Slice {
			return
		}
		for _, n := range []uint64{1025, 1026, 65535, 65536, math.MaxInt64, 1 << 63, math.MaxUint64} {
			says := binary.AppendUvarint(nil, n)
			k.refuses(t, "a list that says too much in "+p.path, swap(b, p.at, p.size, says...), api.ErrLong)
			k.refuses(t, "bytes that end with a list that says too much, in "+p.path, append(b[:p.at:p.at], says...), api.ErrLong)
		}
		k.refuses(t, "bytes that end with a list that says 1,024, in "+p.path, append(b[:p.at:p.at], 0x80, 8), api.ErrShort)
	})
}

func TestP3_2TextsThatSayTooMuch(t *testing.T) {
	eachPart(t, func(k kind, b []byte, p part) {
		if p.what != reflect.String {
			return
		}
		for _, n := range []uint64{65536, 65537, math.MaxInt64, 1 << 63, math.MaxUint64} {
			says := binary.AppendUvarint(nil, n)
			k.refuses(t, "a text that says too much in "+p.path, swap(b, p.at, p.size, says...), api.ErrLong)
		}
		says := binary.AppendUvarint(nil, 65535)
		k.refuses(t, "a text that says 65,535 in "+p.path, swap(b, p.at, p.size, says...), api.ErrShort)
		left := len(b) - p.at - p.head
		says = binary.AppendUvarint(nil, uint64(left+1))
		k.refuses(t, "a text that says one more than there are, in "+p.path, swap(b, p.at, p.head, says...), api.ErrShort)
	})
}

// TestP3_2ATextOfAllThatMayBe: the greatest text that fits in MaxFrame bytes,
// and bytes of just MaxFrame whose text says one more than there are.
func TestP3_2ATextOfAllThatMayBe(t *testing.T) {
	b := append(make([]byte, 24), binary.AppendUvarint(nil, api.MaxFrame-27)...)
	b = append(b, bytes.Repeat([]byte{7}, api.MaxFrame-27)...)
	c, e := ReadCommand(b)
	if e != api.OK || len(c.Image) != api.MaxFrame-27 || c.Image[0] != 7 {
		t.Errorf("an image of %d bytes: %d bytes, error %d", api.MaxFrame-27, len(c.Image), e)
	}
	b = swap(b, 24, 3, binary.AppendUvarint(nil, api.MaxFrame-26)...)
	kinds()[0].refuses(t, "an image that says one more than there are", b, api.ErrShort)
}

func TestP3_2AUint32(t *testing.T) {
	letter := kinds()[1]
	b, parts := plain(post{1, api.Letter{Piece: api.Piece{At: 2, Of: 3, Sum: 4, Data: []byte("data")}}})
	var sum part
	for _, p := range parts {
		if p.what == reflect.Uint32 {
			sum = p
		}
	}
	for _, n := range []uint64{0, 1, 127, 128, 1<<31 - 1, 1 << 31, math.MaxUint32 - 1, math.MaxUint32} {
		_, l, e := ReadLetter(swap(b, sum.at, sum.size, binary.AppendUvarint(nil, n)...))
		if e != api.OK || uint64(l.Piece.Sum) != n || string(l.Piece.Data) != "data" {
			t.Errorf("a sum of %d: %d, %q, error %d", n, l.Piece.Sum, l.Piece.Data, e)
		}
		if w, e := Letter(1, l); e != api.OK || len(w) != len(b)-1+len(binary.AppendUvarint(nil, n)) {
			t.Errorf("a letter with a sum of %d: %d bytes, error %d", n, len(w), e)
		}
	}
	for _, n := range []uint64{1 << 32, 1<<32 + 1, 1<<33 - 1, 1 << 40, math.MaxInt64, 1 << 63, math.MaxUint64} {
		says := binary.AppendUvarint(nil, n)
		wide := swap(b, sum.at, sum.size, says...)
		letter.refuses(t, "a sum above 2^32 - 1", wide, api.ErrForm)
		// It stands ahead of whatever is wrong behind it.
		letter.refuses(t, "a wide sum, a byte left", append(wide, 0), api.ErrForm)
		letter.refuses(t, "a wide sum, and no data", wide[:sum.at+len(says)], api.ErrForm)
		letter.refuses(t, "a wide sum, and less data", wide[:len(wide)-1], api.ErrForm)
		letter.refuses(t, "a wide sum, and too long a text", append(wide[:sum.at+len(says):sum.at+len(says)], 0x80, 0x80, 4), api.ErrForm)
		// And behind whatever is wrong ahead of it.
		letter.refuses(t, "too long a list, and a wide sum", swap(wide, 8, 1, 0x81, 8), api.ErrLong)
		letter.refuses(t, "a wide sum that ends too early", wide[:sum.at+len(says)-1], api.ErrShort)
	}
}

// TestP3_2TheFirstFault: of two faults the one that stands ahead is told.
func TestP3_2TheFirstFault(t *testing.T) {
	for _, k := range kinds() {
		b, parts := plain(k.full(1))
		for i, p := range parts {
			for _, q := range parts[i+1:] {
				first, want := fault(p)
				second, _ := fault(q)
				bad := swap(swap(b, q.at, q.size, second...), p.at, p.size, first...)
				k.refuses(t, "faults in "+p.path+" and "+q.path, bad, want)
			}
		}
	}
}

// fault is bytes for a part that may not be, and what is to be told of them.
func fault(p part) ([]byte, api.Errno) {
	switch p.what {
	case reflect.String:
		return []byte{0x80, 0x80, 4}, api.ErrLong
	case reflect.Slice:
		return []byte{0x81, 8}, api.ErrLong
	case reflect.Uint32:
		return []byte{0x80, 0x80, 0x80, 0x80, 0x10}, api.ErrForm
	case reflect.Bool:
		return []byte{2}, api.ErrForm
	}
	return []byte{0x80, 0}, api.ErrForm
}

func TestP3_2AListOfNoElements(t *testing.T) {
	s, e := ReadState(make([]byte, 29))
	lists := []int{len(s.Accounts), len(s.Marks), len(s.Waits), len(s.Deals), len(s.Ends), len(s.Image)}
	if e != api.OK || !reflect.DeepEqual(lists, make([]int, 6)) {
		t.Errorf("a state of 29 bytes 0 has lists of %v, error %d", lists, e)
	}
}

func TestFollowsWhatIsWrittenIsRead(t *testing.T) {
	random := rand.New(rand.NewSource(5))
	for _, k := range kinds() {
		for range 2000 {
			v := k.chance(random)
			want, _ := plain(v)
			b := k.mustWrite(t, v)
			if !bytes.Equal(b, want) {
				t.Fatalf("%s of %+v: %x; want %x", k.name, v, b, want)
			}
			if r, e := k.read(b); e != api.OK || !same(r, v) {
				t.Fatalf("%s of %+v is read as %+v, error %d", k.name, v, r, e)
			}
		}
	}
}

// TestFollowsWhatIsReadIsWrittenAgain reads bytes of which some are turned,
// lost or put in: whatever the chapter says of them is told, and what is taken
// is written as the same bytes.
func TestFollowsWhatIsReadIsWrittenAgain(t *testing.T) {
	random := rand.New(rand.NewSource(6))
	for _, k := range kinds() {
		taken, told := 0, map[api.Errno]int{}
		for range 10000 {
			b, _ := plain(k.chance(random))
			for range random.Intn(4) {
				b = turned(b, random)
			}
			v, e := k.read(b)
			want, f := plainRead(b, k.of)
			if e != f || !same(v, want) {
				t.Fatalf("Read%s of %x: %+v, error %d; want %+v, error %d", k.name, b, v, e, want, f)
			}
			told[e]++
			if e != api.OK {
				continue
			}
			taken++
			if w, e := k.write(v); e != api.OK || !bytes.Equal(w, b) {
				t.Fatalf("Read%s of %x, written again: %x, error %d", k.name, b, w, e)
			}
		}
		for _, e := range []api.Errno{api.ErrShort, api.ErrForm, api.ErrLong, api.ErrLeft} {
			if told[e] == 0 {
				t.Errorf("Read%s: no bytes were refused with error %d", k.name, e)
			}
		}
		if taken < 1000 {
			t.Errorf("Read%s took %d of 10,000", k.name, taken)
		}
	}
}

// turned is b with one byte of it another one, lost, or a new one put in.
func turned(b []byte, random *rand.Rand) []byte {
	at := random.Intn(len(b) + 1)
	x := []byte{byte(random.Intn(256)), 0, 1, 2, 0x80, 0xFF}[random.Intn(6)]
	n := min(random.Intn(2), len(b)-at)
	if random.Intn(3) == 0 {
		return swap(b, at, n)
	}
	return swap(b, at, n, x)
}

func TestR1AnyBytes(t *testing.T) {
	random := rand.New(rand.NewSource(7))
	for range 20000 {
		b := make([]byte, random.Intn(80))
		random.Read(b)
		for i := range b {
			if random.Intn(2) == 0 {
				b[i] &= 3
			}
		}
		for _, k := range kinds() {
			v, e := k.read(b)
			want, f := plainRead(b, k.of)
			if e != f || !same(v, want) {
				t.Fatalf("Read%s of %x: %+v, error %d; want %+v, error %d", k.name, b, v, e, want, f)
			}
		}
	}
}
