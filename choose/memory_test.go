package choose

import (
	"testing"

	"purse/api"
)

// spoil writes over all of b, and over the room behind its end.
func spoil(b []byte) {
	for i := range b[:cap(b)] {
		b[:cap(b)][i] = '!'
	}
}

// spoilEntries writes over entries, their values, and the room behind both.
func spoilEntries(l []api.Entry) {
	l = l[:cap(l)]
	for i := range l {
		spoil(l[i].Value)
		l[i] = api.Entry{Slot: 77, Value: []byte("spoilt")}
	}
}

// callers are the calls that hand out entries.
func callers() map[string]func(l []api.Promise) []api.Entry {
	return map[string]func(l []api.Promise) []api.Entry{
		"Chosen": func(l []api.Promise) []api.Entry { return Chosen(3, l) },
		"Open": func(l []api.Promise) []api.Entry {
			open, _ := Open(3, 1, l)
			return open
		},
	}
}

// crowded is promises whose values lie in one room, with room behind each list,
// in which there are more votes and promises; and all of that room.
func crowded() (l, wholeList []api.Promise, wholeVotes [][]api.Vote, room []byte) {
	room = []byte("abcdef")
	last := func(node int) []api.Vote {
		return []api.Vote{
			{Slot: 1, Ballot: b(1, 1), Value: room[:2]},
			{Slot: 2, Ballot: b(1, 1), Value: room[2:4]},
			{Slot: node, Ballot: b(0, 0), Value: room[4:]},
		}
	}
	wholeVotes = [][]api.Vote{last(3), last(1)}
	wholeList = []api.Promise{{Node: 3, Votes: wholeVotes[0][:2]}, {Node: 1, Votes: wholeVotes[1][:2]}, {Node: 9}}
	return wholeList[:2], wholeList, wholeVotes, room
}

func TestR3HandedInIsNotChanged(t *testing.T) {
	for what, call := range callers() {
		l, wholeList, wholeVotes, room := crowded()
		if s := text(call(l)); s != "1=ab 2=cd" {
			t.Fatalf("%s: %q", what, s)
		}
		if !Right(3, l) || Right(3, wholeList) {
			t.Fatalf("Right")
		}
		if s := line(wholeList); s != "[3: 1:1.1=ab 2:1.1=cd][1: 1:1.1=ab 2:1.1=cd][9:]" {
			t.Errorf("%s: the promises that were handed in are %q", what, s)
		}
		for i, node := range []int{3, 1} {
			if s := line(all(by(0, wholeVotes[i]...))); s != "[0: 1:1.1=ab 2:1.1=cd "+string(rune('0'+node))+":0.0=ef]" {
				t.Errorf("%s: the votes that were handed in are %q", what, s)
			}
		}
		if string(room) != "abcdef" {
			t.Errorf("%s: the values that were handed in are %q", what, room)
		}
	}
}

func TestR3HandedInIsNotKept(t *testing.T) {
	for what, call := range callers() {
		l, wholeList, wholeVotes, room := crowded()
		got := call(l)
		spoil(room)
		for i := range wholeVotes {
			clear(wholeVotes[i])
		}
		clear(wholeList)
		if s := text(got); s != "1=ab 2=cd" {
			t.Errorf("%s: what was told is %q, once what was handed in was changed", what, s)
		}
	}
}

func TestR3HandsOutNewMemory(t *testing.T) {
	for what, call := range callers() {
		l, wholeList, _, room := crowded()
		first, second := call(l), call(l)
		spoilEntries(first)
		if s := text(second); s != "1=ab 2=cd" {
			t.Errorf("%s: two answers share memory: %q", what, s)
		}
		spoil(second[0].Value)
		if s := text(second[1:]); s != "2=cd" {
			t.Errorf("%s: values of one answer share memory: %q", what, s)
		}
		if s := line(wholeList); string(room) != "abcdef" || s != "[3: 1:1.1=ab 2:1.1=cd][1: 1:1.1=ab 2:1.1=cd][9:]" {
			t.Errorf("%s: what was told leads to what was handed in: %q", what, s)
		}
	}
}

// One value for several slots stands in each entry by itself.
func TestR3OneValueOften(t *testing.T) {
	for what, call := range callers() {
		value := []byte("one")
		votes := []api.Vote{{Slot: 1, Ballot: b(1, 1), Value: value}, {Slot: 2, Ballot: b(1, 1), Value: value}}
		got := call(all(by(1, votes...), by(2, votes...)))
		if s := text(got); s != "1=one 2=one" {
			t.Fatalf("%s: %q", what, s)
		}
		spoil(got[0].Value)
		if s := text(got); s != "1=!!! 2=one" || string(value) != "one" {
			t.Errorf("%s: one value is shared: %q, %q", what, s, value)
		}
	}
}

// Values of no bytes that lie in a room with bytes behind them lead to none of
// it.
func TestR3EmptyValuesLeadNowhere(t *testing.T) {
	for what, call := range callers() {
		room := []byte("abc")
		votes := []api.Vote{{Slot: 1, Ballot: b(1, 1), Value: room[:0]}}
		got := call(all(by(1, votes...), by(2, votes...)))
		if s := text(got); s != "1=" {
			t.Fatalf("%s: %q", what, s)
		}
		spoil(got[0].Value)
		if string(room) != "abc" {
			t.Errorf("%s: the room behind an empty value is %q", what, room)
		}
	}
}

// To ask changes nothing: many may at once.
func TestReadByMany(t *testing.T) {
	l, _, _, _ := crowded()
	lines := make(chan string)
	for range 8 {
		go func() {
			open, _ := Open(3, 1, l)
			lines <- text(open) + " + " + text(Chosen(3, l))
		}()
	}
	for range 8 {
		if s := <-lines; s != "1=ab 2=cd + 1=ab 2=cd" {
			t.Errorf("one of many: %q", s)
		}
	}
}
