package wal

import (
	"cmp"
	"slices"

	"purse/api"
	"purse/codec"
)

// find reads the log off its disk.
func (w *Wal) find() api.Errno {
	// What waits is kept first: else a stamp that is seen here might be lost by
	// a fall, and come again.
	if w.d.Waiting() > 0 {
		w.barrier()
	}
	l := w.sheets()
	w.root = 1
	for _, s := range l {
		w.stamp = s.stamp
		w.read(s)
	}
	w.stamp += uint64(w.d.Size())
	w.follow(l)
	w.free = w.unused()
	return api.OK
}

// sheets is all blocks that are whole, by rising stamps.
func (w *Wal) sheets() []sheet {
	var l []sheet
	for place := range w.d.Size() {
		b, e := w.d.Read(place)
		must(e)
		if s, is := opened(place, b); is {
			l = append(l, s)
		}
	}
	slices.SortFunc(l, func(a, b sheet) int { return cmp.Compare(a.stamp, b.stamp) })
	return l
}

// read takes a root for the log's: the one with the greatest stamp comes last.
func (w *Wal) read(s sheet) {
	if s.kind != root || s.place >= roots {
		return
	}
	r := codec.New(s.data)
	first, link := r.Count(limit), r.Num()
	if e, _ := r.Fault(); e == api.OK {
		w.root, w.first, w.link = s.place, first, link
	}
}

// follow finds the records, each by the stamp of the one ahead of it. A record
// has a greater stamp than the one that it follows: so they come in order. Two
// that follow the same one are not both whole: the later one was appended only
// since the earlier one had not been found whole, and it never will be.
func (w *Wal) follow(l []sheet) {
	for i, s := range l {
		if s.kind != head {
			continue
		}
		if r, link, is := gather(l[i:]); is && link == w.last() {
			w.add(r)
		}
	}
}

// gather is the record with whose first block l begins, and the stamp that it
// follows, if all its blocks are there: their stamps have no gap. (Blocks that
// it has no need of are none of a log's, and are not counted as taken.)
func gather(l []sheet) (record, uint64, bool) {
	r := record{stamp: l[0].stamp}
	var b []byte
	for i, s := range l {
		if i > 0 && (s.kind != body || s.stamp != l[i-1].stamp+1) {
			break
		}
		b = append(b, s.data...)
		r.places = append(r.places, s.place)
	}
	in := codec.New(b)
	link := in.Num()
	r.data = in.Text(api.MaxRecord)
	r.places = r.places[:len(r.places)-in.Left()/part]
	e, _ := in.Fault()
	return r, link, e == api.OK
}

// unused is the places, but those of roots, on which no record lies.
func (w *Wal) unused() []int {
	taken := make([]bool, w.d.Size())
	for _, r := range w.records {
		for _, place := range r.places {
			taken[place] = true
		}
	}
	var l []int
	for place, is := range taken {
		if place >= roots && !is {
			l = append(l, place)
		}
	}
	return l
}
