package codec

import (
	"purse/api"
)

// Reader reads things one behind the other. Behind its first fault it stands
// still, so that who reads a whole may ask once, at the end.
type Reader struct {
	data  []byte
	at    int
	fault api.Errno
}

// New is a reader at the first byte of a copy of b.
func New(b []byte) *Reader {
	return &Reader{data: cut(b)}
}

// Num reads a number.
func (r *Reader) Num() uint64 {
	return thing(r, func() (uint64, api.Errno) { return r.number() })
}

// Int reads an int.
func (r *Reader) Int() int {
	return thing(r, func() (int, api.Errno) {
		n, e := r.number()
		// The lowest bit tells the sign: an odd n stands for -(n + 1) / 2,
		// which is n / 2 with all bits turned.
		return int(n>>1) ^ -int(n&1), e
	})
}

// Byte reads a byte.
func (r *Reader) Byte() byte {
	return thing(r, func() (byte, api.Errno) { return r.next() })
}

// Flag reads a flag.
func (r *Reader) Flag() bool {
	return thing(r, func() (bool, api.Errno) {
		b, e := r.next()
		if b > 1 {
			return false, api.ErrForm
		}
		return b == 1, e
	})
}

// Text reads a text of at most so many bytes.
func (r *Reader) Text(most int) []byte {
	return thing(r, func() ([]byte, api.Errno) {
		n, e := r.upTo(most)
		if e != api.OK {
			return nil, e
		}
		if n > r.Left() {
			return nil, api.ErrShort
		}
		from := r.at
		r.at += n
		return cut(r.data[from:r.at]), api.OK
	})
}

// Count reads a number that is at most so great.
func (r *Reader) Count(most int) int {
	return thing(r, func() (int, api.Errno) { return r.upTo(most) })
}

// Left is how many bytes are behind the reader's place.
func (r *Reader) Left() int {
	if r == nil {
		return 0
	}
	return len(r.data) - r.at
}

// Fault is the first fault, and where the thing at fault begins.
func (r *Reader) Fault() (api.Errno, int) {
	if r == nil {
		return api.ErrNil, 0
	}
	if r.fault == api.OK {
		return api.OK, 0
	}
	return r.fault, r.at
}

// End tells whether all was read: the first fault, or ErrLeft if bytes are
// left.
func (r *Reader) End() api.Errno {
	e, _ := r.Fault()
	if e == api.OK && r.Left() > 0 {
		return api.ErrLeft
	}
	return e
}

// thing lets read take one thing. Whatever is at fault within it ends up here,
// the one place where a reader goes back to the thing's beginning and keeps the
// fault; what stands there already keeps every later thing from being read.
func thing[T any](r *Reader, read func() (T, api.Errno)) T {
	var none T
	if r == nil || r.fault != api.OK {
		return none
	}
	begin := r.at
	v, e := read()
	if e != api.OK {
		r.at, r.fault = begin, e
		return none
	}
	return v
}

// next takes one byte.
func (r *Reader) next() (byte, api.Errno) {
	if r.Left() == 0 {
		return 0, api.ErrShort
	}
	b := r.data[r.at]
	r.at++
	return b, api.OK
}

// number takes the bytes of a number, up to its end or to its first fault.
func (r *Reader) number() (uint64, api.Errno) {
	var v uint64
	for shift := 0; ; shift += 7 {
		b, e := r.next()
		if e != api.OK {
			return 0, e
		}
		// Nine bytes have 63 bits: the tenth has the last one, and no next.
		if shift == 63 && b > 1 {
			return 0, api.ErrForm
		}
		if shift > 0 && b == 0 {
			return 0, api.ErrForm
		}
		v |= uint64(b&0x7F) << shift
		if b < 0x80 {
			return v, api.OK
		}
	}
}

// upTo takes a number that is at most so great.
func (r *Reader) upTo(most int) (int, api.Errno) {
	n, e := r.number()
	if e != api.OK {
		return 0, e
	}
	// As unsigned numbers: one above the greatest int is too great, too.
	if n > uint64(max(most, 0)) {
		return 0, api.ErrLong
	}
	return int(n), api.OK
}
