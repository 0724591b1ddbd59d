package pages

import (
	"bytes"
	"slices"
	"testing"

	"warp/api"
)

// Rules 4 and 5: arguments and results share no memory with the store, nor with each other.

// within is b as the beginning of greater memory, all of whose other bytes are 17, and that memory.
func within(b []byte) (front, memory []byte) {
	memory = append(bytes.Clone(b), bytes.Repeat([]byte{17}, 200)...)
	return memory[:len(b)], memory
}

func TestWriteAndPutLeaveTheArgument(t *testing.T) {
	for _, n := range []int{0, 1, 55, 56} {
		for name, call := range map[string]func(s *Store, b []byte){
			"Write": func(s *Store, b []byte) { s.Alloc(1); s.Write(0, b) },
			"Put":   func(s *Store, b []byte) { s.Put(b); s.Alloc(1 - s.Used()) },
		} {
			s := newStore(t, 2)
			front, memory := within(letters(n, n))
			before := bytes.Clone(memory)
			call(s, front)
			if !bytes.Equal(memory, before) {
				t.Errorf("%s of %d bytes changed its argument's memory", name, n)
			}
			mustBeRaw(t, s, 0, image(0, letters(n, n))) // without what lies beyond
			clear(memory)
			mustBeRaw(t, s, 0, image(0, letters(n, n)))
			s.Flip(0, 0, 255)
			if memory[0] != 0 {
				t.Errorf("%s of %d bytes keeps its argument", name, n)
			}
		}
	}
}

func TestPutOfMorePagesLeavesTheArgument(t *testing.T) {
	s := newStore(t, 4)
	front, memory := within(letters(1, 130))
	before := bytes.Clone(memory)
	mustPut(t, s, front, []int{0, 1, 2})
	if !bytes.Equal(memory, before) {
		t.Error("Put changed its argument's memory")
	}
	clear(memory)
	mustGet(t, s, []int{0, 1, 2}, letters(1, 130))
}

// Lists of pages are neither changed nor kept, nor read beyond their length.
func TestGetAndDropLeaveTheArgument(t *testing.T) {
	s := full(t, 4)
	memory := []int{2, 0, 1, 3, 3, 3}
	ids := memory[:2]
	mustGet(t, s, ids, slices.Concat(letters(2, api.PageRoom), letters(0, api.PageRoom)))
	s.Drop(ids)
	if !slices.Equal(memory, []int{2, 0, 1, 3, 3, 3}) {
		t.Errorf("Get or Drop changed its argument's memory: %d", memory)
	}
	mustHave(t, s, 2, 4)
	mustRead(t, s, 1, letters(1, api.PageRoom))
	mustRead(t, s, 3, letters(3, api.PageRoom))
}

// Bytes that Read, Raw and Get answer are the caller's, also behind their length.
func TestBytesAreTheCallers(t *testing.T) {
	s := full(t, 2)
	was := look(s)
	for name, call := range map[string]func() ([]byte, api.Errno){
		"Read":           func() ([]byte, api.Errno) { return s.Read(1) },
		"Raw":            func() ([]byte, api.Errno) { return s.Raw(1) },
		"Get":            func() ([]byte, api.Errno) { return s.Get([]int{1}, api.PageRoom) },
		"Get of 2 pages": func() ([]byte, api.Errno) { return s.Get([]int{1, 0}, 2*api.PageRoom) },
	} {
		one, _ := call()
		two, _ := call()
		want := bytes.Clone(two)
		clear(one[:cap(one)])
		mustBeAs(t, name, s, was)
		if len(want) == 0 || !bytes.Equal(two, want) {
			t.Errorf("%s answers the same memory twice", name)
		}
		s.Flip(1, 0, 255)
		if !bytes.Equal(two, want) {
			t.Errorf("%s answers memory of the store", name)
		}
		s.Flip(1, 0, 255)
	}
}

// Numbers of pages that Alloc and Put answer are the caller's, too.
func TestNumbersAreTheCallers(t *testing.T) {
	for name, call := range map[string]func(s *Store) ([]int, api.Errno){
		"Alloc": func(s *Store) ([]int, api.Errno) { return s.Alloc(2) },
		"Put":   func(s *Store) ([]int, api.Errno) { return s.Put(letters(0, 60)) },
	} {
		s := newStore(t, 6)
		one, _ := call(s)
		two, e := call(s)
		was := look(s)
		for i := range one[:cap(one)] {
			one[:cap(one)][i] = 5
		}
		mustBeAs(t, name, s, was)
		if e != api.OK || !slices.Equal(two, []int{2, 3}) {
			t.Errorf("%s answers the same memory twice: %d and error %d", name, two, e)
		}
		mustAlloc(t, s, 2, []int{4, 5})
	}
}
