package wire

import (
	"math"

	"purse/api"
	"purse/codec"
)

const (
	mostItems = 1024  // elements of a list
	mostText  = 65535 // bytes of a string, or of a list of bytes
)

// clerk is who goes over the fields of a thing: a writer writes down what it
// finds there, a reader fills in what it reads. So both go the same way, and
// what one of them makes is what the other takes.
type clerk interface {
	ints(l ...*int)
	errno(e *api.Errno)
	small(v *uint32)
	flag(v *bool)
	texts(l ...*string)
	bytes(b *[]byte)
	// count is how many elements a list has, of which has are there by now.
	count(has int) int
}

// list goes over a list of structs: how many there are, and then each of them,
// as item does it. It does so on a new list, which takes the place of the old
// one: nobody else's elements are ever at hand.
func list[T any](c clerk, l *[]T, item func(*T)) {
	out := make([]T, c.count(len(*l)))
	copy(out, *l)
	for i := range out {
		item(&out[i])
	}
	*l = out
}

// writer writes fields one behind the other, till it finds that the thing may
// not be written; from there on it does nothing more.
type writer struct {
	out  []byte
	long bool
}

func (w *writer) ints(l ...*int) {
	for _, v := range l {
		w.put(codec.Int(*v))
	}
}

func (w *writer) errno(e *api.Errno) { w.put(codec.Int(int(*e))) }

func (w *writer) small(v *uint32) { w.put(codec.Num(uint64(*v))) }

func (w *writer) flag(v *bool) {
	var b byte
	if *v {
		b = 1
	}
	w.put([]byte{b})
}

func (w *writer) texts(l ...*string) {
	for _, s := range l {
		if w.fits(len(*s), mostText) {
			w.put(codec.Text([]byte(*s)))
		}
	}
}

func (w *writer) bytes(b *[]byte) {
	if w.fits(len(*b), mostText) {
		w.put(codec.Text(*b))
	}
}

func (w *writer) count(has int) int {
	if !w.fits(has, mostItems) {
		return 0
	}
	w.put(codec.Num(uint64(has)))
	return has
}

// fits tells whether n are no more than may be, and all fitted up to here: it
// is asked ahead of any copy, so that little is done for what is refused.
func (w *writer) fits(n, most int) bool {
	w.long = w.long || n > most
	return !w.long
}

func (w *writer) put(b []byte) {
	if w.fits(len(w.out)+len(b), api.MaxFrame) {
		w.out = append(w.out, b...)
	}
}

func (w *writer) end() ([]byte, api.Errno) {
	if w.long {
		return nil, api.ErrLong
	}
	return w.out, api.OK
}

// reader fills fields in, till the first fault; from there on with zeros.
type reader struct {
	from *codec.Reader
	// wide is set where a number was no uint32: a form that codec's reader, for
	// which it is one, keeps no fault of.
	wide bool
}

func (r *reader) ints(l ...*int) {
	for _, v := range l {
		*v = r.from.Int()
	}
}

func (r *reader) errno(e *api.Errno) { *e = api.Errno(r.from.Int()) }

func (r *reader) small(v *uint32) {
	n := r.from.Num()
	r.wide = r.wide || n > math.MaxUint32
	*v = uint32(n)
}

func (r *reader) flag(v *bool) { *v = r.from.Flag() }

func (r *reader) texts(l ...*string) {
	for _, s := range l {
		*s = string(r.from.Text(mostText))
	}
}

func (r *reader) bytes(b *[]byte) { *b = r.from.Text(mostText) }

func (r *reader) count(has int) int { return r.from.Count(mostItems) }

// end is the first fault of all, or ErrLeft if bytes are left.
func (r *reader) end() api.Errno {
	// Behind a fault every number is 0: what was too wide stood ahead of any.
	if r.wide {
		return api.ErrForm
	}
	return r.from.End()
}
