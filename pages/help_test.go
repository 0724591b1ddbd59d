package pages

import (
	"bytes"
	"encoding/binary"
	"math"
	"slices"
	"testing"

	"warp/api"
)

// What the tests of this package share.

// newStore is a store of so many pages.
func newStore(t *testing.T, most int) *Store {
	t.Helper()
	s, e := New(most)
	if s == nil || e != api.OK {
		t.Fatalf("New(%d) is %v and error %d", most, s, e)
	}
	return s
}

// full is a store of so many pages, all of them allocated, each with content of its own.
func full(t *testing.T, most int) *Store {
	t.Helper()
	s := newStore(t, most)
	mustAlloc(t, s, most, numbers(0, most))
	for id := range most {
		mustWrite(t, s, id, letters(id, api.PageRoom))
	}
	return s
}

// numbers is the integers from one on up to another one, that is not among them.
func numbers(from, to int) []int {
	var l []int
	for n := from; n < to; n++ {
		l = append(l, n)
	}
	return l
}

// letters is n bytes, none of them 0, that depend on seed.
func letters(seed, n int) []byte {
	b := make([]byte, n)
	for i := range b {
		b[i] = byte(1 + (seed*31+i*7)%255)
	}
	return b
}

// padded is content, with bytes 0 behind, as many as a page has room for.
func padded(content []byte) []byte {
	b := make([]byte, api.PageRoom)
	copy(b, content)
	return b
}

// image is the bytes of a page as the chapter words them, made bit by bit and without package crc.
func image(id int, content []byte) []byte {
	b := binary.BigEndian.AppendUint32(padded(content), uint32(id))
	sum := uint32(0xFFFFFFFF)
	for _, c := range b {
		for i := 7; i >= 0; i-- {
			differs := sum>>31 != uint32(c>>i&1)
			sum <<= 1
			if differs {
				sum ^= 0x814141AB
			}
		}
	}
	return binary.BigEndian.AppendUint32(b, sum)
}

// outside is numbers of pages that no store of so many pages has.
func outside(most int) []int {
	return []int{most, most + 1, api.MaxPages, api.MaxPages + 1, 1 << 32, 1<<32 + 1, math.MaxInt, -1, -2, -most, -1 << 32, math.MinInt}
}

// seen is all that can be seen of a store.
type seen struct {
	used, most int
	raw        []string // by their numbers; empty where the page is free
}

// look is what can be seen of s.
func look(s *Store) seen {
	v := seen{used: s.Used(), most: s.Most()}
	for id := range s.Most() {
		b, _ := s.Raw(id)
		v.raw = append(v.raw, string(b))
	}
	return v
}

// mustBeAs tells unless s is as it was.
func mustBeAs(t *testing.T, about string, s *Store, was seen) {
	t.Helper()
	is := look(s)
	if is.used != was.used || is.most != was.most || !slices.Equal(is.raw, was.raw) {
		t.Errorf("%s: the store is not as it was", about)
	}
}

// mustHave tells unless s has so many pages, so many of them allocated.
func mustHave(t *testing.T, s *Store, used, most int) {
	t.Helper()
	if s.Used() != used || s.Most() != most {
		t.Errorf("Used and Most are %d and %d, not %d and %d", s.Used(), s.Most(), used, most)
	}
}

// mustAlloc tells unless Alloc of n is the pages want.
func mustAlloc(t *testing.T, s *Store, n int, want []int) {
	t.Helper()
	if ids, e := s.Alloc(n); e != api.OK || !slices.Equal(ids, want) {
		t.Errorf("Alloc(%d) is %d and error %d, not %d", n, ids, e, want)
	}
}

// mustNotAlloc tells unless Alloc of n has that error, and changes nothing.
func mustNotAlloc(t *testing.T, s *Store, n int, want api.Errno) {
	t.Helper()
	was := look(s)
	if ids, e := s.Alloc(n); e != want || len(ids) != 0 {
		t.Errorf("Alloc(%d) is %d and error %d, not error %d", n, ids, e, want)
	}
	mustBeAs(t, "Alloc", s, was)
}

// mustFree tells unless Free of a page has that error.
func mustFree(t *testing.T, s *Store, id int, want api.Errno) {
	t.Helper()
	if e := s.Free(id); e != want {
		t.Errorf("Free(%d) is error %d, not %d", id, e, want)
	}
}

// mustWrite tells unless b can be written to a page.
func mustWrite(t *testing.T, s *Store, id int, b []byte) {
	t.Helper()
	if e := s.Write(id, b); e != api.OK {
		t.Errorf("Write(%d) of %d bytes is error %d", id, len(b), e)
	}
}

// mustNotWrite tells unless Write has that error, and changes nothing.
func mustNotWrite(t *testing.T, s *Store, id int, b []byte, want api.Errno) {
	t.Helper()
	was := look(s)
	if e := s.Write(id, b); e != want {
		t.Errorf("Write(%d) of %d bytes is error %d, not %d", id, len(b), e, want)
	}
	mustBeAs(t, "Write", s, was)
}

// mustRead tells unless a page holds content, with bytes 0 behind.
func mustRead(t *testing.T, s *Store, id int, content []byte) {
	t.Helper()
	if b, e := s.Read(id); e != api.OK || !bytes.Equal(b, padded(content)) {
		t.Errorf("Read(%d) is %d and error %d, not %d", id, b, e, padded(content))
	}
}

// mustNotRead tells unless Read of a page has that error.
func mustNotRead(t *testing.T, s *Store, id int, want api.Errno) {
	t.Helper()
	if b, e := s.Read(id); e != want || len(b) != 0 {
		t.Errorf("Read(%d) is %d and error %d, not error %d", id, b, e, want)
	}
}

// mustBeRaw tells unless the bytes of a page are want.
func mustBeRaw(t *testing.T, s *Store, id int, want []byte) {
	t.Helper()
	if b, e := s.Raw(id); e != api.OK || !bytes.Equal(b, want) {
		t.Errorf("Raw(%d) is %d and error %d, not %d", id, b, e, want)
	}
}

// mustPut tells unless b comes to lie on the pages want.
func mustPut(t *testing.T, s *Store, b []byte, want []int) {
	t.Helper()
	if ids, e := s.Put(b); e != api.OK || !slices.Equal(ids, want) {
		t.Errorf("Put of %d bytes is %d and error %d, not %d", len(b), ids, e, want)
	}
}

// mustGet tells unless Get of the length of want is want.
func mustGet(t *testing.T, s *Store, ids []int, want []byte) {
	t.Helper()
	if b, e := s.Get(ids, len(want)); e != api.OK || !bytes.Equal(b, want) {
		t.Errorf("Get(%d, %d) is %d and error %d, not %d", ids, len(want), b, e, want)
	}
}

// mustNotGet tells unless Get has that error.
func mustNotGet(t *testing.T, s *Store, ids []int, n int, want api.Errno) {
	t.Helper()
	if b, e := s.Get(ids, n); e != want || len(b) != 0 {
		t.Errorf("Get(%d, %d) is %d and error %d, not error %d", ids, n, b, e, want)
	}
}
