package pages

import (
	"math"
	"slices"
	"testing"

	"warp/api"
)

// P5.2: the bytes of pages as they are, and bits that are changed.

// The checksums are written out, made by another program.
func TestRawOfKnownPages(t *testing.T) {
	s := newStore(t, api.MaxPages)
	mustAlloc(t, s, api.MaxPages, numbers(0, api.MaxPages))
	var rising, ones []byte
	for i := range api.PageRoom {
		rising = append(rising, byte(i+1))
		ones = append(ones, 255)
	}
	for _, c := range []struct {
		id      int
		content []byte
		behind  []byte // the number and the checksum
	}{
		{0, nil, []byte{0, 0, 0, 0, 13, 156, 108, 84}},
		{1, nil, []byte{0, 0, 0, 1, 140, 221, 45, 255}},
		{0, []byte("ab"), []byte{0, 0, 0, 0, 115, 5, 89, 70}},
		{258, []byte("ab"), []byte{0, 0, 1, 2, 112, 198, 40, 137}},
		{4095, ones, []byte{0, 0, 15, 255, 71, 137, 32, 85}},
		{3, rising, []byte{0, 0, 0, 3, 79, 97, 36, 244}},
	} {
		if len(c.content) > 0 {
			mustWrite(t, s, c.id, c.content)
		}
		mustBeRaw(t, s, c.id, slices.Concat(padded(c.content), c.behind))
	}
}

func TestRawOfAllPages(t *testing.T) {
	s := newStore(t, 600)
	mustAlloc(t, s, 600, numbers(0, 600))
	for id := range 600 {
		mustBeRaw(t, s, id, image(id, nil))
		content := letters(id, id%(api.PageRoom+1))
		mustWrite(t, s, id, content)
		mustBeRaw(t, s, id, image(id, content))
	}
}

// Raw answers the bytes of a spoilt page, and none of a free one.
func TestRawSpoiltAndFree(t *testing.T) {
	s := full(t, 3)
	want := image(1, letters(1, api.PageRoom))
	s.Flip(1, 17, 129)
	want[17] ^= 129
	mustBeRaw(t, s, 1, want)
	mustFree(t, s, 1, api.OK)
	for _, id := range append(outside(3), 1) {
		if b, e := s.Raw(id); e != api.ErrNone || len(b) != 0 {
			t.Errorf("Raw(%d) is %d and error %d", id, b, e)
		}
	}
}

// Each byte of a page, with masks of one bit and of more: what was flipped twice is as it was.
func TestFlip(t *testing.T) {
	s := full(t, 3)
	was := look(s)
	for at := range api.PageSize {
		for _, mask := range []byte{1, 2, 4, 8, 16, 32, 64, 128, 3, 129, 255} {
			want := []byte(was.raw[1])
			want[at] ^= mask
			s.Flip(1, at, mask)
			mustBeRaw(t, s, 1, want)
			mustBeRaw(t, s, 0, []byte(was.raw[0]))
			mustBeRaw(t, s, 2, []byte(was.raw[2]))
			mustNotRead(t, s, 1, api.ErrCorrupt)
			s.Flip(1, at, mask)
			mustBeAs(t, "Flip and back", s, was)
			mustRead(t, s, 1, letters(1, api.PageRoom))
		}
	}
}

func TestFlipIsXor(t *testing.T) {
	s := newStore(t, 1)
	mustAlloc(t, s, 1, []int{0})
	want := image(0, nil)
	for _, mask := range []byte{1, 3, 6, 255, 4, 0, 251} {
		s.Flip(0, 20, mask)
		want[20] ^= mask
		mustBeRaw(t, s, 0, want)
	}
}

// A mask of no bits, offsets outside a page, pages that are free and numbers of no pages.
func TestFlipOfNothing(t *testing.T) {
	s := full(t, 4)
	mustFree(t, s, 2, api.OK)
	was := look(s)
	for at := range api.PageSize {
		s.Flip(1, at, 0)
		s.Flip(2, at, 255)
	}
	mustBeAs(t, "a mask of no bits, a free page", s, was)
	for _, at := range []int{-1, -2, -api.PageSize, math.MinInt, api.PageSize, api.PageSize + 1, 2 * api.PageSize, 1 << 32, math.MaxInt} {
		for id := range 4 {
			s.Flip(id, at, 255)
		}
	}
	mustBeAs(t, "offsets outside a page", s, was)
	for _, id := range outside(4) {
		for _, at := range []int{0, 1, 63, 64, -1} {
			s.Flip(id, at, 255)
		}
	}
	mustBeAs(t, "numbers of no pages", s, was)
	mustAlloc(t, s, 1, []int{2}) // the flips of the free page leave no trace
	mustRead(t, s, 2, nil)
}
