package pages

import (
	"math"
	"slices"
	"testing"

	"warp/api"
)

// P5.1: stores, and which of their pages are allocated.

func TestNew(t *testing.T) {
	for _, most := range []int{0, 1, 2, 55, 256, api.MaxPages - 1, api.MaxPages} {
		s := newStore(t, most)
		mustHave(t, s, 0, most)
		for _, id := range append(outside(most), 0, 1, most-1) {
			mustNotRead(t, s, id, api.ErrNone)
		}
	}
}

func TestNewWrong(t *testing.T) {
	for _, most := range []int{-1, -2, -api.MaxPages, math.MinInt, api.MaxPages + 1, 2 * api.MaxPages, 1 << 32, math.MaxInt} {
		if s, e := New(most); s != nil || e != api.ErrArg {
			t.Errorf("New(%d) is %v and error %d", most, s, e)
		}
	}
}

func TestStoresAreApart(t *testing.T) {
	a, b := newStore(t, 2), newStore(t, 2)
	mustAlloc(t, a, 2, []int{0, 1})
	mustHave(t, b, 0, 2)
	mustAlloc(t, b, 1, []int{0})
	mustWrite(t, a, 0, []byte("a"))
	mustRead(t, b, 0, nil)
	mustFree(t, a, 0, api.OK)
	mustHave(t, b, 1, 2)
}

func TestStoreOf0Pages(t *testing.T) {
	s := newStore(t, 0)
	mustAlloc(t, s, 0, nil)
	mustNotAlloc(t, s, 1, api.ErrFull)
	mustNotAlloc(t, s, -1, api.ErrArg)
	mustPut(t, s, nil, nil)
	mustGet(t, s, nil, nil)
	mustFree(t, s, 0, api.ErrNone)
	mustHave(t, s, 0, 0)
}

// A store of the most pages there may be is filled, and each of its pages holds its own.
func TestGreatestStore(t *testing.T) {
	s := newStore(t, api.MaxPages)
	mustNotAlloc(t, s, api.MaxPages+1, api.ErrFull)
	mustAlloc(t, s, api.MaxPages, numbers(0, api.MaxPages))
	mustHave(t, s, api.MaxPages, api.MaxPages)
	mustNotAlloc(t, s, 1, api.ErrFull)
	for id := range api.MaxPages {
		mustWrite(t, s, id, letters(id, 20))
	}
	for id := range api.MaxPages {
		mustRead(t, s, id, letters(id, 20))
	}
	mustFree(t, s, api.MaxPages-1, api.OK)
	mustAlloc(t, s, 1, []int{api.MaxPages - 1})
}

func TestAlloc(t *testing.T) {
	s := newStore(t, 6)
	mustAlloc(t, s, 0, nil)
	mustHave(t, s, 0, 6)
	mustAlloc(t, s, 2, []int{0, 1})
	mustHave(t, s, 2, 6)
	mustNotAlloc(t, s, 5, api.ErrFull)
	mustAlloc(t, s, 4, []int{2, 3, 4, 5})
	mustHave(t, s, 6, 6)
	mustAlloc(t, s, 0, nil)
	mustNotAlloc(t, s, 1, api.ErrFull)
}

func TestAllocWrong(t *testing.T) {
	s := newStore(t, 3)
	for range 2 {
		for _, n := range []int{-1, -3, math.MinInt} {
			mustNotAlloc(t, s, n, api.ErrArg)
		}
		for _, n := range []int{4, api.MaxPages, 1 << 32, math.MaxInt} {
			mustNotAlloc(t, s, n, api.ErrFull)
		}
		s.Alloc(3) // the second time around, no page is free
	}
}

// Of the free pages, those with the smallest numbers are allocated, in whichever order they were freed.
func TestAllocTakesTheSmallest(t *testing.T) {
	s := full(t, 8)
	for _, id := range []int{6, 1, 7, 3, 4} {
		mustFree(t, s, id, api.OK)
	}
	mustNotAlloc(t, s, 6, api.ErrFull)
	mustAlloc(t, s, 1, []int{1})
	mustAlloc(t, s, 3, []int{3, 4, 6})
	mustHave(t, s, 7, 8)
	mustFree(t, s, 0, api.OK)
	mustAlloc(t, s, 2, []int{0, 7})
	mustNotAlloc(t, s, 1, api.ErrFull)
}

// Each set of the pages of a small store is freed, and allocated in two calls.
func TestAllocOfAllSets(t *testing.T) {
	const most = 6
	for set := range 1 << most {
		for first := range most + 1 {
			s := full(t, most)
			var free []int
			for id := range most {
				if set>>id&1 == 1 {
					mustFree(t, s, id, api.OK)
					free = append(free, id)
				}
			}
			if first > len(free) {
				mustNotAlloc(t, s, first, api.ErrFull)
				continue
			}
			mustAlloc(t, s, first, free[:first])
			mustNotAlloc(t, s, len(free)-first+1, api.ErrFull)
			mustAlloc(t, s, len(free)-first, free[first:])
			mustHave(t, s, most, most)
		}
	}
}

// Pages that were written, or spoilt, before they were freed hold bytes 0 when they are allocated again; the others keep what they hold.
func TestAllocClearsPages(t *testing.T) {
	s := full(t, 4)
	s.Flip(1, 0, 255)
	s.Flip(2, 63, 1)
	for _, id := range []int{1, 2} {
		mustFree(t, s, id, api.OK)
	}
	mustAlloc(t, s, 2, []int{1, 2})
	for id := range 4 {
		content := letters(id, api.PageRoom)
		if id == 1 || id == 2 {
			content = nil
		}
		mustRead(t, s, id, content)
		mustBeRaw(t, s, id, image(id, content))
	}
}

func TestFree(t *testing.T) {
	s := full(t, 3)
	for _, id := range []int{1, 0, 2} {
		used := s.Used()
		mustFree(t, s, id, api.OK)
		mustHave(t, s, used-1, 3)
		mustFree(t, s, id, api.ErrNone)
		mustHave(t, s, used-1, 3)
	}
	mustAlloc(t, s, 3, []int{0, 1, 2})
}

// Free changes no page but the one.
func TestFreeLeavesTheOthers(t *testing.T) {
	s := full(t, 4)
	was := look(s)
	mustFree(t, s, 2, api.OK)
	is := look(s)
	was.raw[2] = ""
	if !slices.Equal(is.raw, was.raw) {
		t.Error("Free(2) changed another page")
	}
}

func TestFreeWrong(t *testing.T) {
	s := full(t, 3)
	was := look(s)
	for _, id := range outside(3) {
		mustFree(t, s, id, api.ErrNone)
		mustBeAs(t, "Free", s, was)
	}
}
