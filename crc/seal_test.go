package crc

import (
	"bytes"
	"testing"

	"warp/api"
)

// P2.2: what Seal appends, and what Open takes and refuses.

// mustRefuse tells unless Open refuses b, with no bytes beside the error.
func mustRefuse(t *testing.T, about string, b []byte) {
	t.Helper()
	if x, e := Open(b); e != api.ErrCorrupt || len(x) > 0 {
		t.Errorf("%s: Open of %d is %d and error %d", about, b, x, e)
	}
}

// mustOpen tells unless Open of b is want.
func mustOpen(t *testing.T, about string, b, want []byte) {
	t.Helper()
	if x, e := Open(b); e != api.OK || !bytes.Equal(x, want) {
		t.Errorf("%s: Open of %d is %d and error %d", about, b, x, e)
	}
}

// seals is bytes, with what Seal makes of them.
func seals() []struct{ b, sealed []byte } {
	return []struct{ b, sealed []byte }{
		{nil, []byte{255, 255, 255, 255}},
		{[]byte{}, []byte{255, 255, 255, 255}},
		{[]byte{0}, []byte{0, 0x7F, 0xFF, 0x91, 0xEE}},
		{[]byte{255}, []byte{255, 0xFF, 0xFF, 0xFF, 0x00}},
		{[]byte("ab"), []byte{'a', 'b', 0x44, 0x10, 0x5D, 0xD8}},
		{[]byte{0, 0, 0, 0}, []byte{0, 0, 0, 0, 0x90, 0xA5, 0x43, 0x52}},
		{[]byte{255, 255, 255, 255}, []byte{255, 255, 255, 255, 0, 0, 0, 0}},
		{[]byte("123456789"), append([]byte("123456789"), 0xD8, 0x44, 0xF3, 0xFD)},
		{all256(), append(all256(), 0x4A, 0xFD, 0x61, 0xCE)},
	}
}

func TestSealAndOpen(t *testing.T) {
	for _, c := range seals() {
		if got := Seal(c.b); !bytes.Equal(got, c.sealed) {
			t.Errorf("Seal of %d is %d, not %d", c.b, got, c.sealed)
		}
		mustOpen(t, "sealed", c.sealed, c.b)
	}
}

func TestOpenFewBytes(t *testing.T) {
	for _, b := range [][]byte{nil, {}, {255}, {255, 255}, {255, 255, 255}, {0}, {0, 0}, {0, 0, 0}, {1, 2, 3}} {
		mustRefuse(t, "fewer than four bytes", b)
	}
}

// Of four bytes, those alone open that are the checksum of no bytes.
func TestOpenFourBytes(t *testing.T) {
	mustOpen(t, "four bytes", []byte{255, 255, 255, 255}, nil)
	some := []byte{0, 1, 127, 128, 254, 255}
	for _, a := range some {
		for _, b := range some {
			for _, c := range some {
				for _, d := range some {
					if a&b&c&d < 255 {
						mustRefuse(t, "four bytes", []byte{a, b, c, d})
					}
				}
			}
		}
	}
}

// What nobody sealed, or sealed in another way, is refused.
func TestOpenUnsealed(t *testing.T) {
	digits := []byte("123456789")
	for about, sum := range map[string][]byte{
		"no checksum":         {},
		"three bytes of it":   {0xD8, 0x44, 0xF3},
		"little-endian":       {0xFD, 0xF3, 0x44, 0xD8},
		"inverted":            {0x27, 0xBB, 0x0C, 0x02},
		"from 0 on":           {0x30, 0x10, 0xBF, 0x7F},
		"bytes 0":             {0, 0, 0, 0},
		"bytes 255":           {255, 255, 255, 255},
		"a byte more":         {0xD8, 0x44, 0xF3, 0xFD, 1},
		"a byte more, before": {0, 0xD8, 0x44, 0xF3, 0xFD},
		"the checksum twice":  {0xD8, 0x44, 0xF3, 0xFD, 0xD8, 0x44, 0xF3, 0xFD},
	} {
		mustRefuse(t, about, append(bytes.Clone(digits), sum...))
	}
	sealed := Seal(digits)
	for n := range len(sealed) {
		mustRefuse(t, "the end is missing", sealed[:n])
		mustRefuse(t, "the beginning is missing", sealed[n+1:])
	}
	mustRefuse(t, "the checksum stands before the bytes", append(bytes.Clone(sealed[9:]), digits...))
}

// The bits of sealed bytes lead to the checksum 0, and bits 0 behind lead no further: with bytes 0 behind they are sealed, too.
func TestOpenBytes0Behind(t *testing.T) {
	for _, c := range seals() {
		for n := range 9 {
			b := append(bytes.Clone(c.sealed), make([]byte, n)...)
			mustOpen(t, "bytes 0 behind", b, b[:len(b)-4])
		}
	}
}

// Of each of the four bytes of the checksum, one value alone is taken.
func TestOpenLooksAtTheWholeChecksum(t *testing.T) {
	for _, c := range seals() {
		for at := len(c.b); at < len(c.sealed); at++ {
			for v := range 256 {
				b := bytes.Clone(c.sealed)
				b[at] = byte(v)
				if b[at] == c.sealed[at] {
					mustOpen(t, "as it was", b, c.b)
				} else {
					mustRefuse(t, "another byte", b)
				}
			}
		}
	}
}

// Both calls leave their argument and the memory behind it as they are, and answer memory of their own.
func TestSealAndOpenOwnTheirResults(t *testing.T) {
	sealed := Seal([]byte("some"))
	for name, c := range map[string]struct {
		call func(b []byte) []byte
		b    []byte
	}{
		"Seal": {Seal, []byte("some")},
		"Open": {func(b []byte) []byte { x, _ := Open(b); return x }, sealed},
	} {
		memory := append(bytes.Clone(c.b), bytes.Repeat([]byte{17}, 64)...)
		before := bytes.Clone(memory)
		b := memory[:len(c.b)]
		one, two := c.call(b), c.call(b)
		want := bytes.Clone(two)
		if !bytes.Equal(memory, before) {
			t.Errorf("%s changed its argument's memory: %d", name, memory)
		}
		for i := range one {
			one[i] ^= 255
		}
		if !bytes.Equal(memory, before) || !bytes.Equal(two, want) {
			t.Errorf("%s answers memory that is not its own", name)
		}
		clear(memory)
		if !bytes.Equal(two, want) {
			t.Errorf("%s keeps its argument", name)
		}
	}
}

// What lies beyond the length of a slice is no part of it, even if it would be the missing checksum.
func TestOpenReadsNothingBeyond(t *testing.T) {
	sealed := Seal([]byte("some"))
	for n := range len(sealed) {
		mustRefuse(t, "the rest lies beyond", sealed[:n:len(sealed)])
	}
}
