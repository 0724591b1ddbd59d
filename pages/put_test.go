package pages

import (
	"math"
	"slices"
	"testing"

	"warp/api"
)

// P5.3: bytes on as many pages as they need.

func TestNeed(t *testing.T) {
	for n, want := range map[int]int{
		math.MinInt: 0, math.MinInt + 1: 0, -api.PageRoom - 1: 0, -api.PageRoom: 0, -1: 0, 0: 0,
		1: 1, 2: 1, 55: 1, 56: 1, 57: 2, 111: 2, 112: 2, 113: 3, 64: 2, 560: 10, 561: 11,
		api.PageRoom * api.MaxPages: api.MaxPages, api.PageRoom*api.MaxPages + 1: api.MaxPages + 1,
		math.MaxInt: math.MaxInt/56 + 1, math.MaxInt - 1: math.MaxInt/56 + 1,
	} {
		if got := Need(n); got != want {
			t.Errorf("Need(%d) is %d, not %d", n, got, want)
		}
	}
	for pages := range 100 {
		for n := pages*api.PageRoom + 1; n <= (pages+1)*api.PageRoom; n++ {
			if got := Need(n); got != pages+1 {
				t.Errorf("Need(%d) is %d, not %d", n, got, pages+1)
			}
		}
	}
}

// The chapter's examples.
func TestExamples(t *testing.T) {
	s := newStore(t, 2)
	mustPut(t, s, letters(1, 57), []int{0, 1})
	mustNotAlloc(t, s, 1, api.ErrFull)
	s.Drop([]int{0, 1})
	mustAlloc(t, s, 1, []int{0})
}

// putLengths is lengths of what is put: none, and those about whole pages.
func putLengths() []int { return []int{0, 1, 2, 55, 56, 57, 111, 112, 113, 168, 200, 224, 225, 280} }

func TestPutAndGet(t *testing.T) {
	for _, n := range putLengths() {
		s := newStore(t, 5)
		if n > 5*api.PageRoom {
			continue
		}
		b := letters(n, n)
		ids := numbers(0, Need(n))
		mustPut(t, s, b, ids)
		mustHave(t, s, Need(n), 5)
		mustGet(t, s, ids, b)
		for i, id := range ids {
			part := b[i*api.PageRoom : min((i+1)*api.PageRoom, n)]
			mustRead(t, s, id, part)
			mustBeRaw(t, s, id, image(id, part))
		}
	}
}

// Bytes 0 at the end are content as any other.
func TestPutBytes0(t *testing.T) {
	s := newStore(t, 8)
	for _, n := range []int{1, 56, 57, 200} {
		b := make([]byte, n)
		mustPut(t, s, b, numbers(0, Need(n)))
		mustGet(t, s, numbers(0, Need(n)), b)
		s.Drop(numbers(0, Need(n)))
	}
}

// What is put takes the free pages with the smallest numbers, and overwrites all that was there before.
func TestPutBetweenOthers(t *testing.T) {
	s := full(t, 7)
	for _, id := range []int{5, 1, 6, 3} {
		mustFree(t, s, id, api.OK)
	}
	b := letters(50, 2*api.PageRoom+1)
	mustPut(t, s, b, []int{1, 3, 5})
	mustGet(t, s, []int{1, 3, 5}, b)
	mustRead(t, s, 5, b[2*api.PageRoom:])
	for _, id := range []int{0, 2, 4} {
		mustRead(t, s, id, letters(id, api.PageRoom))
	}
	mustHave(t, s, 6, 7)
}

func TestPutWithoutRoom(t *testing.T) {
	s := newStore(t, 3)
	mustAlloc(t, s, 1, []int{0})
	mustWrite(t, s, 0, []byte("ab"))
	for _, n := range []int{113, 168, 169, 1000} {
		was := look(s)
		if ids, e := s.Put(letters(0, n)); e != api.ErrFull || len(ids) != 0 {
			t.Errorf("Put of %d bytes is %d and error %d", n, ids, e)
		}
		mustBeAs(t, "Put", s, was)
	}
	mustPut(t, s, letters(2, 112), []int{1, 2})
	mustPut(t, s, nil, nil)
	mustPut(t, s, []byte{}, nil)
	if ids, e := s.Put([]byte{0}); e != api.ErrFull || len(ids) != 0 {
		t.Errorf("Put of a byte is %d and error %d", ids, e)
	}
}

func TestPutFillsTheGreatestStore(t *testing.T) {
	s := newStore(t, api.MaxPages)
	b := letters(3, api.MaxPages*api.PageRoom)
	if ids, e := s.Put(append(b, 1)); e != api.ErrFull || len(ids) != 0 {
		t.Errorf("Put of a byte too many is %d pages and error %d", len(ids), e)
	}
	mustHave(t, s, 0, api.MaxPages)
	mustPut(t, s, b, numbers(0, api.MaxPages))
	mustGet(t, s, numbers(0, api.MaxPages), b)
}

// Get reads the pages in the order in which it is given them, the same one as often as it is given it.
func TestGetInAnyOrder(t *testing.T) {
	s := full(t, 3)
	a, b, c := letters(0, api.PageRoom), letters(1, api.PageRoom), letters(2, api.PageRoom)
	mustGet(t, s, []int{2, 0, 1}, slices.Concat(c, a, b))
	mustGet(t, s, []int{1, 1}, slices.Concat(b, b))
	mustWrite(t, s, 0, []byte("ab"))
	mustGet(t, s, []int{2, 0}, append(slices.Clone(c), 'a', 'b'))
	mustGet(t, s, []int{2, 0}, append(slices.Clone(c), 'a', 'b', 0))
	mustGet(t, s, []int{0, 2}, slices.Concat(padded([]byte("ab")), c))
}

func TestGetOfNothing(t *testing.T) {
	s := full(t, 2)
	mustGet(t, s, nil, nil)
	mustGet(t, s, []int{}, nil)
}

// A negative number of bytes, and too few and too many pages, go ahead of all that is wrong with the pages.
func TestGetWrongNumber(t *testing.T) {
	s := full(t, 4)
	s.Flip(3, 0, 1)
	for _, ids := range [][]int{nil, {0}, {0, 1}, {0, 1, 2}, {3}, {3, 3, 3}, {-1}, {4, 4}, {3, -1}} {
		for _, n := range []int{-1, -56, -57, math.MinInt} {
			mustNotGet(t, s, ids, n, api.ErrArg)
		}
		for _, n := range []int{0, 1, 56, 57, 112, 113, 168, 169, math.MaxInt, math.MaxInt - 55} {
			if len(ids) != Need(n) {
				mustNotGet(t, s, ids, n, api.ErrArg)
			}
		}
	}
}

// The error is that of the first page that has one.
func TestGetFirstError(t *testing.T) {
	s := full(t, 5)
	mustFree(t, s, 2, api.OK)
	s.Flip(3, 60, 2)
	for _, c := range []struct {
		ids  []int
		want api.Errno
	}{
		{[]int{2}, api.ErrNone},
		{[]int{5}, api.ErrNone},
		{[]int{-1}, api.ErrNone},
		{[]int{math.MinInt}, api.ErrNone},
		{[]int{3}, api.ErrCorrupt},
		{[]int{0, 2, 3}, api.ErrNone},
		{[]int{0, 3, 2}, api.ErrCorrupt},
		{[]int{3, 2, 0}, api.ErrCorrupt},
		{[]int{2, 3, 0}, api.ErrNone},
		{[]int{0, 1, 9}, api.ErrNone},
		{[]int{0, 1, 3}, api.ErrCorrupt},
	} {
		for n := (len(c.ids)-1)*api.PageRoom + 1; n <= len(c.ids)*api.PageRoom; n += 11 {
			// The pages hold bytes that are not 0 behind n, too: that is told after what is wrong with a page.
			mustNotGet(t, s, c.ids, n, c.want)
		}
	}
}

// A byte that is not 0, anywhere behind what is asked for.
func TestGetBytesBehind(t *testing.T) {
	s := newStore(t, 2)
	mustAlloc(t, s, 2, []int{0, 1})
	mustWrite(t, s, 0, letters(0, api.PageRoom))
	for n := 1; n <= api.PageRoom; n++ {
		for at := range api.PageRoom {
			content := make([]byte, api.PageRoom)
			content[at] = byte(1 << (at % 8))
			mustWrite(t, s, 1, content)
			if at < n {
				mustGet(t, s, []int{1}, content[:n])
				mustGet(t, s, []int{0, 1}, slices.Concat(letters(0, api.PageRoom), content[:n]))
			} else {
				mustNotGet(t, s, []int{1}, n, api.ErrCorrupt)
				mustNotGet(t, s, []int{0, 1}, api.PageRoom+n, api.ErrCorrupt)
			}
		}
	}
}

// What was put is got with its own length, or a longer one where bytes 0 stand behind, and with no shorter one.
func TestGetWithAnotherLength(t *testing.T) {
	s := newStore(t, 2)
	b := letters(1, 70)
	mustPut(t, s, b, []int{0, 1})
	for n := 57; n <= 112; n++ {
		if n < 70 {
			mustNotGet(t, s, []int{0, 1}, n, api.ErrCorrupt)
		} else {
			mustGet(t, s, []int{0, 1}, append(slices.Clone(b), make([]byte, n-70)...))
		}
	}
}

func TestGetChangesNothing(t *testing.T) {
	s := full(t, 4)
	s.Flip(2, 9, 9)
	was := look(s)
	for _, ids := range [][]int{nil, {0}, {0, 1}, {2}, {0, 2}, {7}} {
		for _, n := range []int{-1, 0, 1, 56, 57, 112} {
			s.Get(ids, n)
			mustBeAs(t, "Get", s, was)
		}
	}
}

// Drop frees what is allocated, and passes over what is not.
func TestDrop(t *testing.T) {
	s := full(t, 6)
	s.Drop(nil)
	s.Drop([]int{})
	s.Drop(outside(6))
	mustHave(t, s, 6, 6)
	s.Drop([]int{3, 6, 1, -1, 3, math.MinInt, 5})
	mustHave(t, s, 3, 6)
	for id := range 6 {
		if id%2 == 1 {
			mustNotRead(t, s, id, api.ErrNone)
		} else {
			mustRead(t, s, id, letters(id, api.PageRoom))
		}
	}
	s.Drop([]int{1, 3, 5, 0})
	mustHave(t, s, 2, 6)
	mustAlloc(t, s, 4, []int{0, 1, 3, 5})
}

func TestDropSpoilt(t *testing.T) {
	s := full(t, 2)
	s.Flip(0, 0, 1)
	s.Drop([]int{0, 1})
	mustHave(t, s, 0, 2)
	mustAlloc(t, s, 2, []int{0, 1})
	mustRead(t, s, 0, nil)
}

// A nil Store has no pages, and its methods ask for nothing else.
func TestNilStore(t *testing.T) {
	var s *Store
	mustHave(t, s, 0, 0)
	for _, n := range []int{0, 1, -1, math.MinInt, math.MaxInt} {
		for name, e := range map[string]api.Errno{
			"Free":          s.Free(n),
			"Write":         s.Write(n, nil),
			"Write of much": s.Write(n, make([]byte, 100)),
		} {
			if e != api.ErrNone {
				t.Errorf("%s of %d on a nil Store is error %d", name, n, e)
			}
		}
		if ids, e := s.Alloc(n); len(ids) != 0 || e != api.ErrNone {
			t.Errorf("Alloc(%d) on a nil Store is %d and error %d", n, ids, e)
		}
		if b, e := s.Raw(n); len(b) != 0 || e != api.ErrNone {
			t.Errorf("Raw(%d) on a nil Store is %d and error %d", n, b, e)
		}
		mustNotRead(t, s, n, api.ErrNone)
		mustNotGet(t, s, nil, n, api.ErrNone)
		mustNotGet(t, s, []int{0}, n, api.ErrNone)
		s.Flip(n, 0, 255)
		s.Flip(0, n, 255)
		s.Drop([]int{n, 0})
	}
	for _, b := range [][]byte{nil, {}, {1}, make([]byte, 1000)} {
		if ids, e := s.Put(b); len(ids) != 0 || e != api.ErrNone {
			t.Errorf("Put of %d bytes on a nil Store is %d and error %d", len(b), ids, e)
		}
	}
	s.Drop(nil)
	mustHave(t, s, 0, 0)
}
