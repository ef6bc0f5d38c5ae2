package wal

import (
	"purse/api"
)

// A block bears a stamp at both of its ends, the highest byte outermost, so
// that the ends mirror each other; and no stamp comes twice: they rise from
// write to write.
//
// That tells a block that is whole from one that is torn, however often. A
// write that is torn leaves its first bytes: so the bytes of a block are, from
// its beginning to its end, of older and older writes, and their stamps fall.
// If the outermost two bytes are alike, all stamps in between have that highest
// byte; if the next two inward are alike, too, all in between have the same two
// highest ones; and so on. If all of them are alike, the innermost two are of
// one stamp, and so is all that lies between; and the outer ones are the same
// as that stamp's, whoever wrote them. So the block is, byte for byte, what one
// write wrote.

// side is how many bytes a stamp has.
const side = 8

// part is how many bytes a block carries, between its stamps and behind its kind.
const part = api.BlockSize - 2*side - 1

// limit is above all stamps, and above all numbers of records.
const limit = 1 << 62

// Kinds of blocks.
const (
	root = 1 // tells where the log begins
	head = 2 // the first one of a record
	body = 3 // a further one of a record
)

// sheet is a block that is whole.
type sheet struct {
	place int
	stamp uint64
	kind  byte
	data  []byte
}

// sealed is the bytes of a block with at most part bytes, 0s behind them.
func sealed(stamp uint64, kind byte, b []byte) []byte {
	out := make([]byte, api.BlockSize)
	for i := range side {
		x := byte(stamp >> (8 * i))
		out[side-1-i] = x
		out[api.BlockSize-side+i] = x
	}
	out[side] = kind
	copy(out[side+1:api.BlockSize-side], b)
	return out
}

// opened is what is in a block, if it is whole and a log has written it.
func opened(place int, b []byte) (sheet, bool) {
	var stamp uint64
	for i, x := range b[:side] {
		if x != b[api.BlockSize-1-i] {
			return sheet{}, false
		}
		stamp = stamp<<8 | uint64(x)
	}
	if stamp == 0 || stamp >= limit {
		return sheet{}, false
	}
	return sheet{place, stamp, b[side], b[side+1 : api.BlockSize-side]}, true
}
