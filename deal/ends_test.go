package deal

import (
	"slices"
	"testing"

	"purse/api"
)

// some are ends of four clients.
func some() []api.End { return ends(end(2, 5), end(4, 1), end(5, most), end(7, 9)) }

// whole are ends of all clients.
func whole() []api.End {
	return ends(end(1, 1), end(2, 2), end(3, 3), end(4, 4), end(5, 5), end(6, 6), end(7, 7), end(8, most))
}

// subsets are ends for each set of the clients 1 to 8, with the Seq that of makes
// for each.
func subsets(of func(client int) int) [][]api.End {
	var all [][]api.End
	for set := range 1 << 8 {
		var l []api.End
		for client := 1; client <= 8; client++ {
			if set>>(client-1)&1 == 1 {
				l = append(l, end(client, of(client)))
			}
		}
		all = append(all, l)
	}
	return all
}

func TestP18_1EndsClients(t *testing.T) {
	for _, client := range edges {
		is := client >= 1 && client <= 8
		endsOf(t, "a client", ends(end(client, 1)), is)
		endsOf(t, "a client, behind another one", ends(end(1, 9), end(client, 1)), is && client > 1)
		endsOf(t, "a client, ahead of another one", ends(end(client, 1), end(8, 9)), is && client < 8)
		endsOf(t, "a client, between others", ends(end(2, 9), end(client, 1), end(7, 1)), is && client > 2 && client < 7)
	}
}

func TestP18_1EndsSeqs(t *testing.T) {
	for _, seq := range edges {
		is := seq >= 1 && seq <= most
		endsOf(t, "a Seq", ends(end(3, seq)), is)
		endsOf(t, "a Seq, behind another one", ends(end(1, 9), end(3, seq)), is)
		endsOf(t, "a Seq, ahead of another one", ends(end(3, seq), end(8, 9)), is)
		endsOf(t, "a Seq, between others", ends(end(2, 9), end(3, seq), end(4, 1)), is)
	}
}

func TestP18_1EndsRising(t *testing.T) {
	for first := 0; first <= 9; first++ {
		for second := 0; second <= 9; second++ {
			is := first >= 1 && first < second && second <= 8
			endsOf(t, "two", ends(end(first, 3), end(second, 3)), is)
			for third := 0; third <= 9; third++ {
				endsOf(t, "three", ends(end(first, 9), end(second, 1), end(third, 4)), is && second < third && third <= 8)
			}
		}
	}
	endsOf(t, "one of which there are two, by rising Seqs", ends(end(3, 1), end(3, 2)), false)
	endsOf(t, "one of which there are two, alike", ends(end(3, 1), end(3, 1)), false)
	endsOf(t, "one of which there are two, apart", ends(end(3, 1), end(4, 1), end(3, 2)), false)
}

func TestP18_1EndsWhole(t *testing.T) {
	endsOf(t, "nil", nil, true)
	endsOf(t, "empty", ends(), true)
	endsOf(t, "all clients", whole(), true)
	endsOf(t, "all, and one more", append(whole(), end(9, 1)), false)
	endsOf(t, "all, and one once more", append(whole(), end(8, 1)), false)
	endsOf(t, "a zero", make([]api.End, 1), false)
	for at := range whole() {
		for other := range at {
			l := whole()
			l[at], l[other] = l[other], l[at]
			endsOf(t, "all, two of them in each other's place", l, false)
		}
	}
	for _, l := range subsets(func(client int) int { return 9 - client }) {
		endsOf(t, "a set of clients", l, true)
	}
	long := make([]api.End, 300000)
	for i := range long {
		long[i] = end(1+i*8/len(long), 1)
	}
	k, e := Raise(long, 1, 5)
	a, f := Join(long, nil)
	b, g := Join(nil, long)
	if CheckEnds(long) != 21 || e != 21 || f != 21 || g != 21 || k != nil || a != nil || b != nil || Past(long, 1, 1) {
		t.Errorf("a long list: errors %d, %d, %d", e, f, g)
	}
}

func TestP18_4Raise(t *testing.T) {
	rows := []struct {
		l           []api.End
		client, seq int
		e           api.Errno
		want        string
	}{
		// Without an end: ahead of all, between, behind all.
		{nil, 3, 5, 0, "3:5"}, {ends(), 8, 1, 0, "8:1"}, {nil, 1, most, 0, "1:4611686018427387904"},
		{some(), 1, 1, 0, "1:1 2:5 4:1 5:4611686018427387904 7:9"},
		{some(), 3, most, 0, "2:5 3:4611686018427387904 4:1 5:4611686018427387904 7:9"},
		{some(), 6, 2, 0, "2:5 4:1 5:4611686018427387904 6:2 7:9"},
		{some(), 8, 3, 0, "2:5 4:1 5:4611686018427387904 7:9 8:3"},
		// Below its Seq, at it, above it.
		{some(), 2, 1, 0, "2:5 4:1 5:4611686018427387904 7:9"}, {some(), 2, 4, 0, "2:5 4:1 5:4611686018427387904 7:9"}, {some(), 2, 5, 0, "2:5 4:1 5:4611686018427387904 7:9"},
		{some(), 2, 6, 0, "2:6 4:1 5:4611686018427387904 7:9"}, {some(), 2, most, 0, "2:4611686018427387904 4:1 5:4611686018427387904 7:9"},
		{some(), 4, 1, 0, "2:5 4:1 5:4611686018427387904 7:9"}, {some(), 4, 2, 0, "2:5 4:2 5:4611686018427387904 7:9"},
		{some(), 5, 1, 0, "2:5 4:1 5:4611686018427387904 7:9"}, {some(), 5, most - 1, 0, "2:5 4:1 5:4611686018427387904 7:9"}, {some(), 5, most, 0, "2:5 4:1 5:4611686018427387904 7:9"},
		{some(), 7, 8, 0, "2:5 4:1 5:4611686018427387904 7:9"}, {some(), 7, 10, 0, "2:5 4:1 5:4611686018427387904 7:10"},
		// Numbers past their ranges.
		{some(), 0, 1, 1, ""}, {some(), 9, 1, 1, ""}, {some(), -1, 1, 1, ""}, {some(), 2, 0, 1, ""}, {some(), 2, -1, 1, ""}, {some(), 2, most + 1, 1, ""}, {some(), 3, 0, 1, ""}, {some(), 3, most + 1, 1, ""},
		{some(), low, 1, 1, ""}, {some(), top, 1, 1, ""}, {some(), 2, low, 1, ""}, {some(), 2, top, 1, ""}, {some(), low, top, 1, ""}, {some(), 0, 0, 1, ""}, {nil, 0, 1, 1, ""}, {nil, 1, 0, 1, ""},
		// Lists that are no ends.
		{ends(end(0, 1)), 1, 1, 21, ""}, {ends(end(2, 1), end(1, 1)), 3, 1, 21, ""}, {ends(end(1, most+1)), 1, 1, 21, ""},
	}
	for _, r := range rows {
		if got, e := Raise(r.l, r.client, r.seq); e != r.e || endText(got) != r.want {
			t.Errorf("Raise(%s, %d, %d): %s, error %d; want %s, error %d", endText(r.l), r.client, r.seq, endText(got), e, r.want, r.e)
		}
		raises(t, r.l, r.client, r.seq)
	}
}

// Each set of clients, each client, each edge of its Seq.
func TestP18_4RaiseEach(t *testing.T) {
	for _, l := range subsets(func(client int) int { return 2 * client }) {
		for _, client := range append(slices.Clone(edges), 5, 6) {
			for _, seq := range []int{low, -1, 0, 1, 2*client - 1, 2 * client, 2*client + 1, most, most + 1, top} {
				raises(t, l, client, seq)
				pasts(t, l, client, seq)
			}
		}
	}
}

func TestP18_4Past(t *testing.T) {
	rows := []struct {
		l           []api.End
		client, seq int
		is          bool
	}{
		{some(), 2, 4, true}, {some(), 2, 5, true}, {some(), 2, 6, false}, {some(), 2, 1, true}, {some(), 2, most, false},
		{some(), 4, 1, true}, {some(), 4, 2, false}, {some(), 5, most, true}, {some(), 5, most - 1, true}, {some(), 5, most + 1, false}, {some(), 5, top, false},
		{some(), 7, 9, true}, {some(), 7, 10, false}, {some(), 7, 8, true},
		// A number that no transfer has is below each end, or above it.
		{some(), 2, 0, true}, {some(), 2, -1, true}, {some(), 2, low, true}, {some(), 7, low, true},
		// None of the client's.
		{some(), 1, 1, false}, {some(), 3, 1, false}, {some(), 6, 1, false}, {some(), 8, 1, false}, {some(), 3, 0, false}, {some(), 3, low, false},
		{some(), 0, 1, false}, {some(), 9, 1, false}, {some(), low, low, false}, {some(), top, low, false}, {some(), 0, 0, false}, {some(), -2, 5, false},
		{nil, 1, 1, false}, {nil, 0, 0, false}, {ends(), 1, low, false},
		// Lists that are no ends.
		{ends(end(2, 5), end(1, 5)), 2, 5, false}, {ends(end(0, 5)), 0, 5, false}, {ends(end(3, most+1)), 3, 1, false}, {ends(end(3, 5), end(4, 0)), 3, 5, false}, {append(whole(), end(9, 1)), 2, 2, false},
	}
	for _, r := range rows {
		if is := Past(r.l, r.client, r.seq); is != r.is {
			t.Errorf("Past(%s, %d, %d): %v", endText(r.l), r.client, r.seq, is)
		}
		pasts(t, r.l, r.client, r.seq)
	}
	for _, l := range [][]api.End{nil, some(), whole(), some()[1:2]} {
		for _, client := range edges {
			for _, seq := range edges {
				pasts(t, l, client, seq)
			}
		}
	}
}

func TestP18_4Join(t *testing.T) {
	rows := []struct {
		a, b []api.End
		e    api.Errno
		want string
	}{
		{nil, nil, 0, ""}, {ends(), nil, 0, ""}, {nil, ends(), 0, ""},
		{some(), nil, 0, "2:5 4:1 5:4611686018427387904 7:9"}, {nil, some(), 0, "2:5 4:1 5:4611686018427387904 7:9"},
		{some(), some(), 0, "2:5 4:1 5:4611686018427387904 7:9"},
		{some(), some()[1:], 0, "2:5 4:1 5:4611686018427387904 7:9"}, {some()[:2], some(), 0, "2:5 4:1 5:4611686018427387904 7:9"},
		// No client in common.
		{some(), ends(end(1, 3), end(3, 1), end(6, most), end(8, 2)), 0, "1:3 2:5 3:1 4:1 5:4611686018427387904 6:4611686018427387904 7:9 8:2"},
		{ends(end(1, 3), end(2, 8)), ends(end(3, 1), end(4, 2)), 0, "1:3 2:8 3:1 4:2"}, {ends(end(3, 1), end(4, 2)), ends(end(1, 3), end(2, 8)), 0, "1:3 2:8 3:1 4:2"},
		// The greater one on each side.
		{some(), ends(end(2, 6)), 0, "2:6 4:1 5:4611686018427387904 7:9"}, {some(), ends(end(2, 4)), 0, "2:5 4:1 5:4611686018427387904 7:9"},
		{ends(end(2, 6)), some(), 0, "2:6 4:1 5:4611686018427387904 7:9"}, {ends(end(2, 4)), some(), 0, "2:5 4:1 5:4611686018427387904 7:9"},
		{ends(end(1, 1), end(2, 9), end(3, most)), ends(end(1, most), end(2, 8), end(3, most-1)), 0, "1:4611686018427387904 2:9 3:4611686018427387904"},
		{whole(), ends(end(1, 2), end(8, 1)), 0, "1:2 2:2 3:3 4:4 5:5 6:6 7:7 8:4611686018427387904"},
		// Lists that are no ends, on each side.
		{ends(end(0, 1)), some(), 21, ""}, {some(), ends(end(0, 1)), 21, ""}, {ends(end(1, 0)), nil, 21, ""}, {nil, ends(end(1, most+1)), 21, ""}, {some(), append(some(), some()...), 21, ""}, {ends(end(9, 1)), ends(end(9, 1)), 21, ""},
	}
	for _, r := range rows {
		if got, e := Join(r.a, r.b); e != r.e || endText(got) != r.want {
			t.Errorf("Join(%s, %s): %s, error %d; want %s, error %d", endText(r.a), endText(r.b), endText(got), e, r.want, r.e)
		}
		joins(t, r.a, r.b)
	}
}

// Each two sets of clients: rising Seqs in the one, falling ones in the other.
func TestP18_4JoinEach(t *testing.T) {
	rising := subsets(func(client int) int { return client })
	falling := subsets(func(client int) int { return 9 - client })
	for _, a := range rising {
		for _, b := range falling {
			joins(t, a, b)
		}
	}
}
