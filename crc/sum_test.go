package crc

import (
	"bytes"
	"math/rand"
	"strings"
	"testing"
)

// P2.1: the checksum of bits.

// bitByBit is the checksum as P2.1 words it, one bit after the other.
func bitByBit(sum uint32, b []byte) uint32 {
	for _, c := range b {
		for i := 7; i >= 0; i-- {
			differs := sum>>31 != uint32(c>>i&1)
			sum <<= 1
			if differs {
				sum ^= 0x814141AB
			}
		}
	}
	return sum
}

// someBytes is n bytes by chance.
func someBytes(chance *rand.Rand, n int) []byte {
	b := make([]byte, n)
	chance.Read(b)
	return b
}

// all256 is each byte once, in increasing order.
func all256() []byte {
	b := make([]byte, 256)
	for i := range b {
		b[i] = byte(i)
	}
	return b
}

// The checksums of known bytes; that of the nine digits from 0 on is CRC-32Q's published one.
func TestKnownSums(t *testing.T) {
	for _, c := range []struct {
		sum  uint32
		b    string
		want uint32
	}{
		{0, "\x00", 0},
		{0, "\x01", 0x814141AB},
		{0, "\x80", 0x40005999},
		{0, "\xff", 0x80006EEE},
		{0, "123456789", 0x3010BF7F},
		{0, strings.Repeat("\x00", 100), 0},
		{1, "\x00", 0x100},
		{0x80000000, "\x00", 0x40005999},
		{0x80000000, "\x80", 0},
		{0x12345678, "\x12\x34\x56\x78", 0},
		{0xDEADBEEF, "warp", 0xBD2E33C3},
		{0xFFFFFFFF, "\x00", 0x7FFF91EE},
		{0xFFFFFFFF, "\xff", 0xFFFFFF00},
		{0xFFFFFFFF, "ab", 0x44105DD8},
		{0xFFFFFFFF, "\x00\x00\x00\x00", 0x90A54352},
		{0xFFFFFFFF, "123456789", 0xD844F3FD},
		{0xFFFFFFFF, string(all256()), 0x4AFD61CE},
	} {
		if got := More(c.sum, []byte(c.b)); got != c.want {
			t.Errorf("More of %#x and %q is %#x, not %#x", c.sum, c.b, got, c.want)
		}
		if c.sum != 0xFFFFFFFF {
			continue
		}
		if got := Of([]byte(c.b)); got != c.want {
			t.Errorf("Of %q is %#x, not %#x", c.b, got, c.want)
		}
	}
}

func TestSumOfNoBytes(t *testing.T) {
	for _, b := range [][]byte{nil, {}} {
		if got := Of(b); got != 0xFFFFFFFF {
			t.Errorf("Of no bytes is %#x", got)
		}
		for _, sum := range []uint32{0, 1, 0x80000000, 0x814141AB, 0xFFFFFFFE, 0xFFFFFFFF} {
			if got := More(sum, b); got != sum {
				t.Errorf("More of %#x and no bytes is %#x", sum, got)
			}
		}
	}
}

// Each byte behind each bit and each byte of the start is as bit by bit.
func TestSumOfEachByte(t *testing.T) {
	starts := []uint32{0, 0xFFFFFFFF, 0x814141AB, 0x7EBEBE54}
	for i := range 32 {
		starts = append(starts, 1<<i)
	}
	for i := range uint32(256) {
		starts = append(starts, i<<24)
	}
	for _, sum := range starts {
		for c := range 256 {
			b := []byte{byte(c)}
			if got, want := More(sum, b), bitByBit(sum, b); got != want {
				t.Fatalf("More of %#x and %d is %#x, not %#x", sum, c, got, want)
			}
		}
	}
}

// The source of chance begins with a fixed number, so that each run is the same.
func TestSumOfSomeBytes(t *testing.T) {
	chance := rand.New(rand.NewSource(2))
	for n := range 200 {
		b, sum := someBytes(chance, n), chance.Uint32()
		if got, want := More(sum, b), bitByBit(sum, b); got != want {
			t.Errorf("More of %#x and %d bytes is %#x, not %#x", sum, n, got, want)
		}
		if got, want := Of(b), bitByBit(0xFFFFFFFF, b); got != want {
			t.Errorf("Of %d bytes is %#x, not %#x", n, got, want)
		}
	}
	b := someBytes(chance, 1<<17)
	if got, want := Of(b), bitByBit(0xFFFFFFFF, b); got != want {
		t.Errorf("Of %d bytes is %#x, not %#x", len(b), got, want)
	}
}

// Neither call changes its argument, reads beyond its length, or answers otherwise the second time.
func TestSumLeavesTheArgument(t *testing.T) {
	memory := all256()
	b := memory[:9]
	want := bitByBit(0xFFFFFFFF, b)
	for range 3 {
		if Of(b) != want || More(0xFFFFFFFF, b) != want {
			t.Error("another checksum of the same bytes")
		}
		More(5, memory)
	}
	if !bytes.Equal(memory, all256()) {
		t.Errorf("the argument was changed: %d", memory)
	}
	memory[9]++
	if Of(b) != want {
		t.Error("a byte beyond the length was read")
	}
}
