package crc

import (
	"bytes"
	"math/rand"
	"slices"
	"testing"

	"warp/api"
)

// P2.3: checksums of parts, and Open against Seal.

// The checksum of the whole comes from that of the first part, wherever the second part begins.
func TestSumOfParts(t *testing.T) {
	chance := rand.New(rand.NewSource(3))
	for n := range 80 {
		b := someBytes(chance, n)
		for _, sum := range []uint32{0, 0xFFFFFFFF, chance.Uint32()} {
			whole := More(sum, b)
			for i := range n + 1 {
				if got := More(More(sum, b[:i]), b[i:]); got != whole {
					t.Errorf("%d of %d bytes ahead: %#x, not %#x", i, n, got, whole)
				}
			}
		}
		if More(Of(b), b) != Of(slices.Concat(b, b)) {
			t.Errorf("%d bytes twice", n)
		}
	}
}

// A third part follows the checksum of two, and a start of its own leads to a checksum of its own.
func TestSumByteByByte(t *testing.T) {
	chance := rand.New(rand.NewSource(4))
	b := someBytes(chance, 300)
	sum, other := uint32(0xFFFFFFFF), uint32(0xFFFFFFFE)
	for i := range b {
		sum, other = More(sum, b[i:i+1]), More(other, b[i:i+1])
		if sum != Of(b[:i+1]) {
			t.Fatalf("the checksum is lost at byte %d", i)
		}
		if sum == other {
			t.Fatalf("two starts lead to one checksum at byte %d", i)
		}
	}
}

func TestOpenUndoesSeal(t *testing.T) {
	chance := rand.New(rand.NewSource(5))
	for n := range 300 {
		for _, b := range [][]byte{someBytes(chance, n), make([]byte, n), bytes.Repeat([]byte{255}, n)} {
			sealed := Seal(b)
			if len(sealed) != n+4 || !bytes.Equal(sealed[:n], b) {
				t.Errorf("Seal of %d is %d", b, sealed)
			}
			mustOpen(t, "sealed", sealed, b)
			mustOpen(t, "sealed twice", Seal(sealed), sealed)
		}
	}
}

// Of all strings of five bytes that end in a checksum of one byte, Open takes those alone that Seal makes.
func TestSealUndoesOpen(t *testing.T) {
	taken := 0
	for c := range 256 {
		for d := range 256 {
			b := append([]byte{byte(c)}, Seal([]byte{byte(d)})[1:]...)
			x, e := Open(b)
			if e != api.OK {
				continue
			}
			taken++
			if !bytes.Equal(Seal(x), b) {
				t.Errorf("Open of %d is %d, but Seal of this is %d", b, x, Seal(x))
			}
		}
	}
	if taken != 256 {
		t.Errorf("Open took %d strings of five bytes, not 256", taken)
	}
}
