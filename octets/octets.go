// Package octets is layer 1: integers and strings as bytes, and from bytes again. See shared/doc/01-octets.md.
package octets

import (
	"math/bits"
	"slices"

	"warp/api"
)

// single is how many integers, from 0 on, are encoded by one byte, which is the integer itself.
const single = 248

// longest is how many bytes the longest encoding of an integer takes.
const longest = 9

// Num is b, followed by the encoding of n.
func Num(b []byte, n uint64) []byte {
	return putNum(copyOf(b, longest), n)
}

// Int is b, followed by the encoding of n, which may be negative.
func Int(b []byte, n int) []byte {
	return Num(b, fold(n))
}

// Text is b, followed by the length of s and its bytes.
func Text(b []byte, s string) []byte {
	b = putNum(copyOf(b, longest+len(s)), uint64(len(s)))
	return append(b, s...)
}

// copyOf is a copy of b with room for more bytes. The encoders append to a copy, as the memory beyond the length of b is its owner's.
func copyOf(b []byte, more int) []byte {
	return append(make([]byte, 0, len(b)+more), b...)
}

// putNum appends the encoding of n to b itself.
func putNum(b []byte, n uint64) []byte {
	if n < single {
		return append(b, byte(n))
	}
	k := (bits.Len64(n) + 7) / 8
	b = append(b, byte(single-1+k))
	for i := k - 1; i >= 0; i-- {
		b = append(b, byte(n>>(8*i)))
	}
	return b
}

// fold turns an integer into an unsigned one that is small if the integer is near 0, on either side, so that it takes few bytes.
func fold(n int) uint64 {
	if n < 0 {
		return uint64(-1-n)<<1 | 1
	}
	return uint64(n) << 1
}

// unfold is the integer that fold turns into u.
func unfold(u uint64) int {
	n := int(u >> 1)
	if u&1 == 1 {
		return -1 - n
	}
	return n
}

// Reader decodes integers and strings from bytes, from the first byte on.
type Reader struct {
	rest []byte // what has not been consumed
	bad  bool
}

// New is a reader at the beginning of b.
func New(b []byte) *Reader {
	return &Reader{rest: slices.Clone(b)}
}

// Num consumes an unsigned integer; it is 0 if the reader is bad.
func (r *Reader) Num() uint64 {
	if r.Bad() {
		return 0
	}
	n, size := first(r.rest)
	if size == 0 {
		r.spoil()
		return 0
	}
	r.rest = r.rest[size:]
	return n
}

// Int consumes an integer that Int encoded; it is 0 if the reader is bad.
func (r *Reader) Int() int {
	return unfold(r.Num())
}

// Text consumes a string; it is empty if the reader is bad.
func (r *Reader) Text() string {
	n := r.Num()
	if r.Bad() {
		return ""
	}
	// The length is compared before it becomes an int, which can't hold every length that bytes may claim.
	if n > api.MaxText || n > uint64(len(r.rest)) {
		r.spoil()
		return ""
	}
	s := string(r.rest[:n])
	r.rest = r.rest[n:]
	return s
}

// Left is how many bytes have not been consumed.
func (r *Reader) Left() int {
	if r.Bad() {
		return 0
	}
	return len(r.rest)
}

// Bad tells whether something could not be decoded.
func (r *Reader) Bad() bool {
	return r == nil || r.bad
}

// End is OK if everything was decoded.
func (r *Reader) End() api.Errno {
	if r.Bad() || r.Left() > 0 {
		return api.ErrCorrupt
	}
	return api.OK
}

// spoil makes the reader bad for good; what it has not consumed is never asked for again.
func (r *Reader) spoil() {
	r.rest, r.bad = nil, true
}

// first is the integer whose encoding b begins with, and the number of bytes of that encoding: 0 if b begins with none.
func first(b []byte) (uint64, int) {
	if len(b) == 0 {
		return 0, 0
	}
	if b[0] < single {
		return uint64(b[0]), 1
	}
	size := 1 + int(b[0]) - (single - 1)
	if len(b) < size {
		return 0, 0
	}
	var n uint64
	for _, c := range b[1:size] {
		n = n<<8 | uint64(c)
	}
	if n < single || size > 2 && b[1] == 0 {
		return 0, 0 // a shorter encoding stands for n
	}
	return n, size
}
