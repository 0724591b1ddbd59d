package pack

import (
	"bytes"
	"math"
	"math/rand"
	"slices"
	"testing"

	"warp/api"
)

// P8.2: Pack and Unpack.

func TestPack(t *testing.T) {
	for _, c := range []struct {
		l     []uint64
		width int
		want  []byte
	}{
		{[]uint64{1, 2, 3}, 2, []byte{57}},
		{nil, 0, nil},
		{nil, 64, nil},
		{[]uint64{0, 0, 0}, 0, nil},
		{[]uint64{1}, 1, []byte{1}},
		{[]uint64{1, 0, 0, 0, 0, 0, 0, 1}, 1, []byte{129}},
		{[]uint64{0, 0, 0, 0, 0, 0, 0, 0, 1}, 1, []byte{0, 1}},
		{[]uint64{0}, 1, []byte{0}},
		{[]uint64{5, 6}, 3, []byte{53}},
		{[]uint64{7, 7, 7}, 3, []byte{255, 1}},
		{[]uint64{1, 2, 3}, 8, []byte{1, 2, 3}},
		{[]uint64{1, 2, 3}, 4, []byte{33, 3}},
		{[]uint64{258}, 9, []byte{2, 1}},
		{[]uint64{511, 1}, 9, []byte{255, 3, 0}},
		{[]uint64{0x0102, 0x0304}, 16, []byte{2, 1, 4, 3}},
		{[]uint64{0x0123456789abcdef}, 64, []byte{0xef, 0xcd, 0xab, 0x89, 0x67, 0x45, 0x23, 0x01}},
		{[]uint64{math.MaxUint64, 1}, 64, []byte{255, 255, 255, 255, 255, 255, 255, 255, 1, 0, 0, 0, 0, 0, 0, 0}},
		{[]uint64{1, 1<<63 - 1}, 63, []byte{1, 0, 0, 0, 0, 0, 0, 0x80, 255, 255, 255, 255, 255, 255, 255, 63}},
		{[]uint64{5}, 64, []byte{5, 0, 0, 0, 0, 0, 0, 0}},
	} {
		mustPack(t, c.l, c.width, c.want)
		mustUnpack(t, c.want, len(c.l), c.width, c.l)
	}
}

// Any integers with all widths, held against a string of their bits.
func TestPackBitByBit(t *testing.T) {
	chance := rand.New(rand.NewSource(2))
	for width := range 65 {
		for many := range 20 {
			l := some(chance, many, width)
			mustPack(t, l, width, packed(l, width))
			mustUnpack(t, packed(l, width), many, width, l)
		}
	}
}

// The greatest integers of each width, and a width of more than need be.
func TestPackOfGreatest(t *testing.T) {
	for width := range 65 {
		most := uint64(math.MaxUint64) >> (64 - width)
		for many := range 10 {
			l := slices.Repeat([]uint64{most}, many)
			mustPack(t, l, width, packed(l, width))
			for wider := width; wider <= 64; wider++ {
				mustPack(t, l, wider, packed(l, wider))
			}
		}
	}
}

func TestPackOfLongest(t *testing.T) {
	chance := rand.New(rand.NewSource(3))
	for _, width := range []int{0, 1, 5, 8, 63, 64} {
		for _, many := range []int{4095, 4096} {
			l := some(chance, many, width)
			mustPack(t, l, width, packed(l, width))
			mustUnpack(t, packed(l, width), many, width, l)
		}
	}
}

// mustNotPack tells unless Pack answers an error alone.
func mustNotPack(t *testing.T, l []uint64, width int, want api.Errno) {
	t.Helper()
	b, e := Pack(l, width)
	if e != want || len(b) != 0 {
		t.Fatalf("Pack of %d integers with %d bits is %d bytes and error %d, not error %d", len(l), width, len(b), e, want)
	}
}

// The errors of Bytes come first, and a width that may not be ahead of what is too long.
func TestPackOfOdd(t *testing.T) {
	for _, width := range []int{-1, -2, -64, 65, 66, 128, 1 << 32, 1<<32 + 1, math.MaxInt, math.MinInt} {
		for _, l := range [][]uint64{nil, {0}, {math.MaxUint64}, make([]uint64, 4096), make([]uint64, 4097)} {
			mustNotPack(t, l, width, api.ErrArg)
		}
	}
	for _, many := range []int{4097, 4098, 100000} {
		for width := range 65 {
			mustNotPack(t, make([]uint64, many), width, api.ErrLong)
			mustNotPack(t, slices.Repeat([]uint64{math.MaxUint64}, many), width, api.ErrLong)
		}
	}
}

// An integer that is too great is refused wherever it stands.
func TestPackOfTooGreat(t *testing.T) {
	for width := range 64 {
		for _, great := range []uint64{1 << width, 1<<width + 1, 1 << 63, math.MaxUint64} {
			mustNotPack(t, []uint64{great}, width, api.ErrRange)
			mustNotPack(t, []uint64{great, 0, 0}, width, api.ErrRange)
			mustNotPack(t, []uint64{0, great, 0}, width, api.ErrRange)
			mustNotPack(t, []uint64{0, 0, great}, width, api.ErrRange)
			l := make([]uint64, 4096)
			l[4095] = great
			mustNotPack(t, l, width, api.ErrRange)
		}
	}
}

// The errors of Bytes come first, also for bytes that are not those of any integers.
func TestUnpackOfOdd(t *testing.T) {
	for _, c := range odd() {
		for _, b := range [][]byte{nil, {0}, {255}, make([]byte, 512), make([]byte, 40000)} {
			l, e := Unpack(b, c.many, c.width)
			if e != c.e || len(l) != 0 {
				t.Fatalf("Unpack(%d bytes, %d, %d) is %d integers and error %d, not error %d", len(b), c.many, c.width, len(l), e, c.e)
			}
		}
	}
}

// All bytes of at most two, as all numbers of integers of all widths that could stand in about so many.
func TestUnpackOfAllShortBytes(t *testing.T) {
	for _, c := range [][2]int{{0, 0}, {0, 1}, {0, 64}, {5, 0}, {1, 1}, {2, 1}, {7, 1}, {8, 1}, {9, 1}, {15, 1}, {16, 1}, {17, 1}, {1, 7}, {2, 7}, {1, 8}, {2, 8}, {1, 9}, {3, 2}, {5, 3}, {3, 5}, {2, 5}, {1, 15}, {1, 16}, {1, 17}, {1, 64}} {
		many, width := c[0], c[1]
		mustUnpackAs(t, nil, many, width)
		for one := range 256 {
			mustUnpackAs(t, []byte{byte(one)}, many, width)
			for two := 0; two < 256; two += 1 + one%3 {
				mustUnpackAs(t, []byte{byte(one), byte(two)}, many, width)
			}
		}
	}
}

// mustUnpackAs tells unless Unpack answers as the string of the bits of b tells.
func mustUnpackAs(t *testing.T, b []byte, many, width int) {
	t.Helper()
	if want, ok := unpacked(b, many, width); ok {
		mustUnpack(t, b, many, width, want)
	} else {
		mustNotUnpack(t, b, many, width, api.ErrCorrupt)
	}
}

// Bytes that are too few or too many, be they 0 or not.
func TestUnpackOfOtherLengths(t *testing.T) {
	for _, many := range []int{0, 1, 2, 8, 9, 4096} {
		for _, width := range []int{0, 1, 3, 8, 13, 64} {
			size := (many*width + 7) / 8
			for _, other := range []int{0, 1, size - 2, size - 1, size + 1, size + 2, size + 8, 2*size + 1} {
				if other < 0 || other == size {
					continue
				}
				mustNotUnpack(t, make([]byte, other), many, width, api.ErrCorrupt)
				mustNotUnpack(t, bytes.Repeat([]byte{255}, other), many, width, api.ErrCorrupt)
			}
		}
	}
}

// Each unused bit is told, alone.
func TestUnpackOfUnusedBits(t *testing.T) {
	chance := rand.New(rand.NewSource(4))
	for width := range 65 {
		for many := range 12 {
			b := packed(some(chance, many, width), width)
			for bit := many * width; bit < 8*len(b); bit++ {
				spoilt := slices.Clone(b)
				spoilt[bit/8] |= 1 << (bit % 8)
				mustNotUnpack(t, spoilt, many, width, api.ErrCorrupt)
			}
		}
	}
}

// Arguments are neither changed nor kept, nor read beyond their length; answers are memory of their own.
func TestBitsOwnTheirResults(t *testing.T) {
	numbers := []uint64{1, 2, 3, 4, math.MaxUint64}
	for range 2 {
		b, e := Pack(numbers[:4], 3)
		if e != api.OK || !bytes.Equal(b, packed([]uint64{1, 2, 3, 4}, 3)) {
			t.Fatalf("Pack is %d and error %d", b, e)
		}
		clear(b[:cap(b)])
	}
	if !slices.Equal(numbers, []uint64{1, 2, 3, 4, math.MaxUint64}) {
		t.Errorf("Pack changed its argument's memory: %d", numbers)
	}
	memory := []byte{1, 2, 3, 255, 255}
	kept, _ := Unpack(memory[:3], 3, 8)
	for range 2 {
		l, e := Unpack(memory[:3], 3, 8)
		if e != api.OK || !slices.Equal(l, []uint64{1, 2, 3}) {
			t.Fatalf("Unpack is %d and error %d", l, e)
		}
		clear(l[:cap(l)])
	}
	if !bytes.Equal(memory, []byte{1, 2, 3, 255, 255}) {
		t.Errorf("Unpack changed its argument's memory: %d", memory)
	}
	clear(memory)
	if !slices.Equal(kept, []uint64{1, 2, 3}) {
		t.Errorf("what Unpack answered became %d", kept)
	}
	mustNotUnpack(t, memory[:2], 3, 8, api.ErrCorrupt)
}
