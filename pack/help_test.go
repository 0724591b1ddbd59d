package pack

import (
	"bytes"
	"math"
	"math/big"
	"math/rand"
	"slices"
	"strings"
	"testing"

	"warp/api"
	"warp/octets"
)

// What the tests of this package share.

// bitsOf is the width lowest bits of n as a string of 0 and 1, the least significant one first.
func bitsOf(n uint64, width int) string {
	var s strings.Builder
	for range width {
		s.WriteByte('0' + byte(n%2))
		n /= 2
	}
	return s.String()
}

// numberOf is the integer whose bits are s.
func numberOf(s string) uint64 {
	var n uint64
	for i := len(s) - 1; i >= 0; i-- {
		n = 2*n + uint64(s[i]-'0')
	}
	return n
}

// packed is what Pack must answer for l, each of which is less than 2^width: the bits of all of them in a string, cut into bytes.
func packed(l []uint64, width int) []byte {
	var all strings.Builder
	for _, n := range l {
		all.WriteString(bitsOf(n, width))
	}
	s := all.String()
	for len(s)%8 != 0 {
		s += "0"
	}
	b := []byte{}
	for ; s != ""; s = s[8:] {
		b = append(b, byte(numberOf(s[:8])))
	}
	return b
}

// unpacked is what Unpack must answer for b, many and width, and whether there is such a list.
func unpacked(b []byte, many, width int) ([]uint64, bool) {
	var all strings.Builder
	for _, c := range b {
		all.WriteString(bitsOf(uint64(c), 8))
	}
	s := all.String()
	used := many * width
	if len(s) < used || len(s)-used > 7 || strings.Contains(s[used:], "1") {
		return nil, false
	}
	l := make([]uint64, many)
	for i := range l {
		l[i] = numberOf(s[i*width : (i+1)*width])
	}
	return l, true
}

// framed is what Frame must answer for l, which is not longer than may be; it reckons with integers of any size.
func framed(l []int) []byte {
	b := octets.Num(nil, uint64(len(l)))
	if len(l) == 0 {
		return b
	}
	sorted := slices.Sorted(slices.Values(l))
	least, most := sorted[0], sorted[len(l)-1]
	width := above(most, least).BitLen()
	var over []uint64
	for _, n := range l {
		over = append(over, above(n, least).Uint64())
	}
	b = octets.Num(octets.Int(b, least), uint64(width))
	return append(b, packed(over, width)...)
}

// above is by how much n is more than least.
func above(n, least int) *big.Int {
	return new(big.Int).Sub(big.NewInt(int64(n)), big.NewInt(int64(least)))
}

// unframed is what Unframe must answer for b, and whether there is such a list. It tells from the parts of b alone, without a Frame made anew.
func unframed(b []byte) ([]int, bool) {
	r := octets.New(b)
	many := r.Num()
	if many == 0 {
		return nil, r.End() == api.OK
	}
	least, width := r.Int(), r.Num()
	if r.Bad() || many > api.MaxRows || width > 64 {
		return nil, false
	}
	over, ok := unpacked(b[len(b)-r.Left():], int(many), int(width))
	if !ok || slices.Min(over) != 0 || new(big.Int).SetUint64(slices.Max(over)).BitLen() != int(width) {
		return nil, false
	}
	var l []int
	for _, n := range over {
		sum := new(big.Int).Add(big.NewInt(int64(least)), new(big.Int).SetUint64(n))
		if !sum.IsInt64() {
			return nil, false
		}
		l = append(l, int(sum.Int64()))
	}
	return l, true
}

// some is so many integers by chance, each of which is less than 2^width.
func some(chance *rand.Rand, many, width int) []uint64 {
	l := make([]uint64, many)
	for i := range l {
		l[i] = chance.Uint64() >> (64 - width)
	}
	return l
}

// someInts is so many integers by chance, which lie near to each other or far from each other.
func someInts(chance *rand.Rand, many int) []int {
	base, width := int(chance.Uint64()), chance.Intn(65)
	l := make([]int, many)
	for i, n := range some(chance, many, width) {
		l[i] = base + int(n) // may wrap round, which makes the distances greater
	}
	return l
}

// edges is integers at the ends of what an int can hold, and around 0.
func edges() []int {
	return []int{math.MinInt, math.MinInt + 1, -1 << 32, -257, -256, -2, -1, 0, 1, 2, 3, 123, 124, 255, 256, 1 << 31, 1 << 32, 1<<62 - 1, 1 << 62, math.MaxInt - 1, math.MaxInt}
}

// refusal is a length and a width that may not be, and the error that tells it.
type refusal struct {
	many, width int
	e           api.Errno
}

// odd is lengths and widths that may not be, of each sort and of both at once.
func odd() []refusal {
	var l []refusal
	for _, many := range []int{-1, -2, -8, -4096, -1 << 32, 1 - 1<<32, math.MinInt, math.MinInt + 1} {
		for _, width := range []int{0, 1, 8, 64, 65, -1, math.MaxInt, math.MinInt} {
			l = append(l, refusal{many, width, api.ErrArg})
		}
	}
	for _, width := range []int{-1, -2, -8, -64, 65, 66, 128, 256, 1 << 32, 1<<32 + 8, -1 << 32, math.MaxInt, math.MinInt} {
		for _, many := range []int{0, 1, 8, 4096, 4097, math.MaxInt} {
			l = append(l, refusal{many, width, api.ErrArg})
		}
	}
	for _, many := range []int{4097, 4098, 8192, 1 << 16, 1 << 32, 1<<32 + 1, 1 << 58, 1 << 61, 1 << 62, math.MaxInt - 1, math.MaxInt} {
		for _, width := range []int{0, 1, 7, 8, 63, 64} {
			l = append(l, refusal{many, width, api.ErrLong})
		}
	}
	return l
}

// mustPack tells unless Pack answers want.
func mustPack(t *testing.T, l []uint64, width int, want []byte) {
	t.Helper()
	b, e := Pack(l, width)
	if e != api.OK || !bytes.Equal(b, want) {
		t.Fatalf("Pack(%d, %d) is %d and error %d, not %d", l, width, b, e, want)
	}
}

// mustUnpack tells unless Unpack answers want.
func mustUnpack(t *testing.T, b []byte, many, width int, want []uint64) {
	t.Helper()
	l, e := Unpack(b, many, width)
	if e != api.OK || !slices.Equal(l, want) {
		t.Fatalf("Unpack(%d, %d, %d) is %d and error %d, not %d", b, many, width, l, e, want)
	}
}

// mustNotUnpack tells unless Unpack answers an error alone.
func mustNotUnpack(t *testing.T, b []byte, many, width int, want api.Errno) {
	t.Helper()
	l, e := Unpack(b, many, width)
	if e != want || len(l) != 0 {
		t.Fatalf("Unpack(%d, %d, %d) is %d and error %d, not error %d", b, many, width, l, e, want)
	}
}

// mustFrame tells unless Frame answers want.
func mustFrame(t *testing.T, l []int, want []byte) {
	t.Helper()
	b, e := Frame(l)
	if e != api.OK || !bytes.Equal(b, want) {
		t.Fatalf("Frame(%d) is %d and error %d, not %d", l, b, e, want)
	}
}

// mustUnframe tells unless Unframe answers want.
func mustUnframe(t *testing.T, b []byte, want []int) {
	t.Helper()
	l, e := Unframe(b)
	if e != api.OK || !slices.Equal(l, want) {
		t.Fatalf("Unframe(%d) is %d and error %d, not %d", b, l, e, want)
	}
}

// mustNotUnframe tells unless Unframe answers ErrCorrupt alone.
func mustNotUnframe(t *testing.T, b []byte) {
	t.Helper()
	l, e := Unframe(b)
	if e != api.ErrCorrupt || len(l) != 0 {
		t.Fatalf("Unframe(%d) is %d and error %d, not error %d", b, l, e, api.ErrCorrupt)
	}
}
