package crc

import (
	"bytes"
	"math/rand"
	"testing"

	"warp/api"
)

// P2.4: every change within 32 consecutive bits of what was sealed is found.

// flipped is b with the bits changed that are 1 in pattern: its lowest bit lies at bit at + width - 1 of b.
func flipped(b []byte, at, width int, pattern uint64) []byte {
	b = bytes.Clone(b)
	for i := range width {
		bit := at + i
		if pattern>>(width-1-i)&1 == 1 {
			b[bit/8] ^= 128 >> (bit % 8)
		}
	}
	return b
}

// patterns is bursts of just so many bits, the first and the last of which are changed: all of them where they are few.
func patterns(chance *rand.Rand, width int) []uint64 {
	ends := uint64(1)<<(width-1) | 1
	full := uint64(1)<<width - 1
	var l []uint64
	if width <= 8 {
		for p := range full + 1 {
			if p&ends == ends {
				l = append(l, p)
			}
		}
		return l
	}
	l = append(l, ends, full)
	for range 30 {
		l = append(l, chance.Uint64()&full|ends)
	}
	return l
}

// mustTell tells unless Open refuses sealed after each burst of just so many bits, from bit at on.
func mustTell(t *testing.T, chance *rand.Rand, sealed []byte, at, width int) {
	t.Helper()
	for _, p := range patterns(chance, width) {
		b := flipped(sealed, at, width, p)
		if x, e := Open(b); e != api.ErrCorrupt || len(x) > 0 {
			t.Errorf("%d bytes, a burst %#x of %d bits from bit %d on: %d and error %d", len(sealed), p, width, at, x, e)
		}
	}
}

func TestBurstsAtTheBeginning(t *testing.T) {
	chance := rand.New(rand.NewSource(6))
	for n := range 70 {
		sealed := Seal(someBytes(chance, n))
		for width := 1; width <= api.BurstBits; width++ {
			mustTell(t, chance, sealed, 0, width)
		}
	}
}

// A burst over the border has its first bit in the bytes and its last bit in their checksum.
func TestBurstsOverTheBorder(t *testing.T) {
	chance := rand.New(rand.NewSource(7))
	for _, n := range []int{1, 2, 3, 4, 5, 56, 60} {
		sealed := Seal(someBytes(chance, n))
		border := 8 * n
		for width := 2; width <= api.BurstBits; width++ {
			for at := max(0, border-width+1); at < border; at++ {
				mustTell(t, chance, sealed, at, width)
			}
		}
	}
}

func TestBurstsAtTheEnd(t *testing.T) {
	chance := rand.New(rand.NewSource(8))
	for n := range 70 {
		sealed := Seal(someBytes(chance, n))
		for width := 1; width <= api.BurstBits; width++ {
			mustTell(t, chance, sealed, 8*len(sealed)-width, width)
		}
	}
}

func TestBurstsAnywhere(t *testing.T) {
	chance := rand.New(rand.NewSource(9))
	for _, b := range [][]byte{nil, {0}, {255}, []byte("warp"), make([]byte, 20), someBytes(chance, 60)} {
		sealed := Seal(b)
		for width := 1; width <= api.BurstBits; width++ {
			for at := range 8*len(sealed) - width + 1 {
				mustTell(t, chance, sealed, at, width)
			}
		}
	}
}

// The bits of CRC-32Q's polynomial are a burst of one bit more than are told: what they make of sealed bytes is sealed, too, so that Open takes it.
func TestBurstOf33Bits(t *testing.T) {
	chance := rand.New(rand.NewSource(10))
	for n := range 20 {
		sealed := Seal(someBytes(chance, n))
		for at := range 8*len(sealed) - api.BurstBits {
			b := flipped(sealed, at, api.BurstBits+1, 0x1814141AB)
			mustOpen(t, "33 bits", b, b[:n])
		}
	}
}
