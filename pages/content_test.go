package pages

import (
	"slices"
	"testing"

	"warp/api"
)

// P5.1: what pages hold.

// lengths is lengths of content, up to the longest there may be.
func lengths() []int { return []int{0, 1, 2, 28, 54, 55, api.PageRoom} }

func TestWriteAndRead(t *testing.T) {
	s := newStore(t, 3)
	mustAlloc(t, s, 3, []int{0, 1, 2})
	for _, id := range []int{2, 0, 1} {
		mustRead(t, s, id, nil)
		// Longer content before shorter content, and the other way round: nothing of what was there before is left.
		for _, n := range append(lengths(), 3, 0, 56, 1) {
			mustWrite(t, s, id, letters(id+n, n))
			mustRead(t, s, id, letters(id+n, n))
		}
	}
}

func TestWriteChangesOnePage(t *testing.T) {
	s := full(t, 5)
	was := look(s)
	mustWrite(t, s, 3, []byte("new"))
	is := look(s)
	was.raw[3] = string(image(3, []byte("new")))
	if is.used != 5 || !slices.Equal(is.raw, was.raw) {
		t.Error("Write(3) changed another page")
	}
}

func TestWriteContentOfAnyBytes(t *testing.T) {
	s := newStore(t, 1)
	mustAlloc(t, s, 1, []int{0})
	for c := range 256 {
		b := make([]byte, api.PageRoom)
		for i := range b {
			b[i] = byte(c + i%2)
		}
		mustWrite(t, s, 0, b)
		mustRead(t, s, 0, b)
		mustBeRaw(t, s, 0, image(0, b))
	}
}

func TestWriteTooLong(t *testing.T) {
	s := full(t, 2)
	mustWrite(t, s, 1, letters(9, api.PageRoom))
	for _, n := range []int{api.PageRoom + 1, api.PageRoom + 4, api.PageSize, 1000} {
		mustNotWrite(t, s, 1, letters(1, n), api.ErrLong)
		mustNotWrite(t, s, 1, make([]byte, n), api.ErrLong)
	}
	mustRead(t, s, 1, letters(9, api.PageRoom))
}

// Pages that are free, and numbers of no pages: that there is none goes ahead of what is too long.
func TestNoSuchPage(t *testing.T) {
	s := full(t, 4)
	mustFree(t, s, 2, api.OK)
	for _, id := range append(outside(4), 2) {
		mustNotRead(t, s, id, api.ErrNone)
		for _, n := range append(lengths(), api.PageRoom+1, 1000) {
			mustNotWrite(t, s, id, letters(0, n), api.ErrNone)
		}
	}
}

// A page is as spoilt as it was until it is written: Read changes nothing.
func TestReadSpoilt(t *testing.T) {
	s := full(t, 3)
	s.Flip(1, 5, 8)
	was := look(s)
	for range 3 {
		mustNotRead(t, s, 1, api.ErrCorrupt)
		mustRead(t, s, 0, letters(0, api.PageRoom))
		mustRead(t, s, 2, letters(2, api.PageRoom))
	}
	mustBeAs(t, "Read", s, was)
	mustNotWrite(t, s, 1, letters(1, api.PageRoom+1), api.ErrLong)
	mustNotRead(t, s, 1, api.ErrCorrupt)
	mustWrite(t, s, 1, []byte("ab"))
	mustRead(t, s, 1, []byte("ab"))
	mustBeRaw(t, s, 1, image(1, []byte("ab")))
}

// overwrite turns a page into other bytes, by flips alone.
func overwrite(t *testing.T, s *Store, id int, want []byte) {
	t.Helper()
	is, e := s.Raw(id)
	if e != api.OK {
		t.Fatalf("Raw(%d) is error %d", id, e)
	}
	for at := range is {
		s.Flip(id, at, is[at]^want[at])
	}
	mustBeRaw(t, s, id, want)
}

// The bytes of another page have a right checksum, but are never stored on this one.
func TestReadAnotherPagesBytes(t *testing.T) {
	s := newStore(t, 258)
	mustAlloc(t, s, 258, numbers(0, 258))
	for _, other := range []int{1, 2, 255, 256, 257, 258, 4095, 1 << 16, 1 << 24, 1 << 31, 1<<32 - 1} {
		for _, content := range [][]byte{nil, []byte("ab"), letters(4, api.PageRoom)} {
			mustWrite(t, s, 0, content)
			overwrite(t, s, 0, image(other, content))
			mustNotRead(t, s, 0, api.ErrCorrupt)
			mustNotGet(t, s, []int{0}, 2, api.ErrCorrupt)
		}
	}
	overwrite(t, s, 257, image(1, nil)) // equal in the last byte of their numbers
	mustNotRead(t, s, 257, api.ErrCorrupt)
}

// What Write would store for this page is read, in whichever way it came there.
func TestReadBytesThatWriteStores(t *testing.T) {
	s := newStore(t, 2)
	mustAlloc(t, s, 2, []int{0, 1})
	for id := range 2 {
		for _, n := range lengths() {
			overwrite(t, s, id, image(id, letters(n, n)))
			mustRead(t, s, id, letters(n, n))
		}
	}
}

// Content with the wrong checksum, or with none.
func TestReadWrongChecksum(t *testing.T) {
	s := newStore(t, 2)
	mustAlloc(t, s, 2, []int{0, 1})
	good := image(1, []byte("ab"))
	for about, sum := range map[string][]byte{
		"bytes 0":       {0, 0, 0, 0},
		"bytes 255":     {255, 255, 255, 255},
		"little-endian": {good[63], good[62], good[61], good[60]},
		"inverted":      {^good[60], ^good[61], ^good[62], ^good[63]},
		"of page 0":     image(0, []byte("ab"))[60:],
		"of other text": image(1, []byte("ac"))[60:],
	} {
		overwrite(t, s, 1, slices.Concat(good[:60], sum))
		if _, e := s.Read(1); e != api.ErrCorrupt {
			t.Errorf("%s: error %d", about, e)
		}
	}
	overwrite(t, s, 1, make([]byte, api.PageSize))
	mustNotRead(t, s, 1, api.ErrCorrupt)
	overwrite(t, s, 1, good)
	mustRead(t, s, 1, []byte("ab"))
}
