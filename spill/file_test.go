package spill

import (
	"testing"

	"warp/api"
)

// P17.2: what is told of a file, and what becomes of it when it is dropped.

// mustBeEmpty tells unless a file has no rows and no pages, and so does a cursor.
func mustBeEmpty(t *testing.T, f *File) {
	t.Helper()
	for range 2 {
		if f.Many() != 0 || len(f.Pages()) != 0 {
			t.Fatalf("Many is %d and Pages %d", f.Many(), f.Pages())
		}
		c := f.Open()
		if c == nil {
			t.Fatal("Open is nil")
		}
		mustNotNext(t, c, api.OK)
	}
}

func TestFile(t *testing.T) {
	s := newStore(t, 40)
	s.Alloc(3)
	a := mustPut(t, s, []api.Row{filled(112), filled(1), filled(30)})
	b := mustPut(t, s, nil)
	c := mustPut(t, s, []api.Row{nil, nil, nil})
	mustLie(t, s, a, 3, []int{3, 4, 5}, codes([]api.Row{filled(112), filled(1), filled(30)}))
	mustBeEmpty(t, b)
	mustLie(t, s, c, 3, []int{6}, []byte{0, 0, 0})
	// Reading changes neither what is told nor the pages.
	was := look(s)
	mustBe(t, a.Open(), []api.Row{filled(112), filled(1), filled(30)}, api.OK)
	mustBe(t, c.Open(), []api.Row{nil, nil, nil}, api.OK)
	mustBeAs(t, "Next", s, was)
	mustLie(t, s, a, 3, []int{3, 4, 5}, codes([]api.Row{filled(112), filled(1), filled(30)}))
}

// Drop frees the file's pages alone, and only once.
func TestDrop(t *testing.T) {
	s := newStore(t, 10)
	one, two, three := []api.Row{filled(60)}, []api.Row{filled(20), filled(130)}, []api.Row{filled(56), nil}
	a, b, c := mustPut(t, s, one), mustPut(t, s, two), mustPut(t, s, three)
	b.Drop()
	mustUse(t, s, 4)
	mustBeEmpty(t, b)
	mustBe(t, a.Open(), one, api.OK)
	mustBe(t, c.Open(), three, api.OK)
	d := mustPut(t, s, two)
	mustLie(t, s, d, 2, []int{2, 3, 4}, codes(two))
	b.Drop()
	b.Drop()
	mustUse(t, s, 7)
	mustBe(t, d.Open(), two, api.OK)
	for _, f := range []*File{a, c, d} {
		f.Drop()
		mustBeEmpty(t, f)
	}
	mustUse(t, s, 0)
}

// A file some of whose pages are spoilt, or free already, can be dropped as well.
func TestDropOfSpoiltPages(t *testing.T) {
	s := newStore(t, 10)
	s.Alloc(1)
	f := mustPut(t, s, []api.Row{filled(250)})
	s.Flip(2, 5, 1)
	s.Free(4)
	f.Drop()
	mustUse(t, s, 1)
	mustBeEmpty(t, f)
}

// Where there is no file.
func TestNoFile(t *testing.T) {
	var f *File
	for range 2 {
		f.Drop()
		if f.Many() != 0 || f.Pages() != nil || f.Open() != nil {
			t.Errorf("Many, Pages and Open are %d, %d and %v", f.Many(), f.Pages(), f.Open())
		}
	}
	mustNotNext(t, f.Open(), api.ErrNone)
	mustNotNext(t, nil, api.ErrNone)
	f = &File{}
	f.Drop()
	mustBeEmpty(t, f)
	mustNotNext(t, &Cursor{}, api.OK)
}

// Each cursor begins at the first row, and has nothing to do with the others.
func TestCursors(t *testing.T) {
	s := newStore(t, 60)
	rows := []api.Row{filled(10), nil, filled(100), filled(46), {null}, filled(300), filled(3)}
	f := mustPut(t, s, rows)
	var all []*Cursor
	for i := range len(rows) + 1 {
		all = append(all, f.Open())
		for k := range i {
			mustNext(t, all[i-k], rows[k])
		}
	}
	for i, c := range all[1:] {
		mustBe(t, c, rows[len(rows)-i:], api.OK)
	}
}

// A cursor that was opened ahead of a Drop reads the pages as they are when it needs them, and they are free.
func TestCursorOfDroppedFile(t *testing.T) {
	s := newStore(t, 10)
	rows := []api.Row{filled(20), filled(30), filled(20), nil}
	f := mustPut(t, s, rows)
	fresh, begun, whole := f.Open(), f.Open(), f.Open()
	mustNext(t, begun, rows[0])
	for _, r := range rows {
		mustNext(t, whole, r)
	}
	f.Drop()
	mustNotNext(t, fresh, api.ErrNone)
	mustBe(t, begun, rows[1:2], api.ErrNone)
	mustNotNext(t, whole, api.OK)
	// Nor does it matter to them that there are rows again.
	mustPut(t, s, rows)
	mustNotNext(t, fresh, api.ErrNone)
	mustNotNext(t, begun, api.ErrNone)
}
