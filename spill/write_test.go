package spill

import (
	"slices"
	"testing"

	"warp/api"
	"warp/pages"
)

// P17.1: rows laid onto pages.

// Each page is allocated and written as soon as its content is complete, and not before.
func TestAddWritesWholePages(t *testing.T) {
	s := newStore(t, api.MaxPages)
	w := New(s)
	mustUse(t, s, 0)
	var all []byte
	for i, r := range edges() {
		mustAdd(t, w, r, api.OK)
		all = append(all, code(r)...)
		whole := len(all) / api.PageRoom
		mustUse(t, s, whole)
		for id := range whole {
			if b, e := s.Read(id); e != api.OK || string(b) != string(all[id*api.PageRoom:][:api.PageRoom]) {
				t.Fatalf("after row %d page %d is %d and error %d", i, id, b, e)
			}
		}
	}
	f := mustDone(t, w)
	mustUse(t, s, need(len(all)))
	mustLie(t, s, f, len(edges()), numbers(need(len(all))), all)
}

// numbers is the integers from 0 on, so many.
func numbers(many int) []int {
	var l []int
	for n := range many {
		l = append(l, n)
	}
	return l
}

// Rows that end about the end of a page, made of one row or of rows without values.
func TestRowsAboutTheEndOfPages(t *testing.T) {
	for n := 1; n <= 300; n++ {
		s := newStore(t, 6)
		one := filled(n)
		if len(code(one)) != n {
			t.Fatalf("a row of %d bytes has %d", n, len(code(one)))
		}
		w := New(s)
		mustAdd(t, w, one, api.OK)
		mustUse(t, s, n/api.PageRoom)
		f := mustDone(t, w)
		mustLie(t, s, f, 1, numbers(need(n)), code(one))
		f.Drop()
		w = New(s)
		for i := range n {
			mustAdd(t, w, nil, api.OK)
			mustUse(t, s, (i+1)/api.PageRoom)
		}
		f = mustDone(t, w)
		mustLie(t, s, f, n, numbers(need(n)), make([]byte, n))
	}
}

// Pages are the free ones with the smallest numbers at the time when each becomes complete.
func TestAddTakesFreePages(t *testing.T) {
	s := newStore(t, 8)
	s.Alloc(6)
	s.Drop([]int{1, 4})
	w, other := New(s), New(s)
	mustAdd(t, w, filled(60), api.OK)
	mustAdd(t, other, filled(57), api.OK)
	mustAdd(t, w, filled(52), api.OK)
	s.Free(2)
	mustAdd(t, w, filled(57), api.OK)
	f := mustDone(t, w)
	mustLie(t, s, f, 3, []int{1, 6, 2, 7}, codes([]api.Row{filled(60), filled(52), filled(57)}))
	s.Free(0)
	mustLie(t, s, mustDone(t, other), 1, []int{4, 0}, code(filled(57)))
	mustUse(t, s, 8)
}

// At most 32 values, whatever they are.
func TestAddOfTooManyValues(t *testing.T) {
	s := newStore(t, 10)
	w := New(s)
	mustAdd(t, w, nulls(31), api.OK)
	mustAdd(t, w, nulls(32), api.OK)
	for _, many := range []int{33, 34, 64, 247, 248, 5000} {
		mustAdd(t, w, nulls(many), api.ErrLong)
		bad := nulls(many)
		bad[0] = truth(2)
		mustAdd(t, w, bad, api.ErrLong)
		mustNotPut(t, s, []api.Row{bad}, api.ErrLong)
	}
	// What lies beyond the length of a row does not count.
	mustAdd(t, w, nulls(100)[:32], api.OK)
	f := mustDone(t, w)
	mustBe(t, f.Open(), []api.Row{nulls(31), nulls(32), nulls(32)}, api.OK)
}

// A value that is not valid is told in each place of a row.
func TestAddOfWrongValues(t *testing.T) {
	s := newStore(t, 10)
	w := New(s)
	mustAdd(t, w, filled(50), api.OK)
	for _, v := range wrong() {
		for many := 1; many <= 32; many += 5 {
			for at := range many {
				r := nulls(many)
				r[at] = v
				mustAdd(t, w, r, api.ErrType)
			}
		}
		mustAdd(t, w, append(nulls(5), v)[:5], api.OK)
	}
	rows := append([]api.Row{filled(50)}, slices.Repeat([]api.Row{nulls(5)}, len(wrong()))...)
	mustUse(t, s, len(codes(rows))/api.PageRoom)
	mustBe(t, mustDone(t, w).Open(), rows, api.OK)
}

// A row that is refused leaves nothing behind, and the rows behind it are laid as if it had never come.
func TestRefusedRowsChangeNothing(t *testing.T) {
	for _, bad := range []struct {
		row  api.Row
		want api.Errno
	}{{nulls(33), api.ErrLong}, {api.Row{long(1000), truth(7)}, api.ErrType}, {api.Row{{Kind: 9}}, api.ErrType}} {
		s := newStore(t, 6)
		w := New(s)
		var rows []api.Row
		for _, n := range []int{3, 20, 33, 56, 60, 52} {
			was := look(s)
			mustAdd(t, w, bad.row, bad.want)
			mustAdd(t, w, bad.row, bad.want)
			mustBeAs(t, "Add", s, was)
			mustAdd(t, w, filled(n), api.OK)
			rows = append(rows, filled(n))
		}
		mustAdd(t, w, bad.row, bad.want)
		mustLie(t, s, mustDone(t, w), len(rows), numbers(4), codes(rows))
	}
}

// mustHaveEnded tells unless a writer is at its end: all calls are refused ahead of all that may be wrong with a row, and change nothing.
func mustHaveEnded(t *testing.T, s *pages.Store, w *Writer) {
	t.Helper()
	was := look(s)
	for range 2 {
		for _, r := range []api.Row{nil, {null}, filled(300), nulls(33), {truth(2)}} {
			mustAdd(t, w, r, api.ErrNone)
		}
		mustNotDone(t, w, api.ErrNone)
		w.Cancel()
		mustBeAs(t, "a writer at its end", s, was)
	}
}

func TestNoWriter(t *testing.T) {
	s := newStore(t, 2)
	s.Alloc(1)
	for _, w := range []*Writer{nil, {}, New(nil)} {
		mustHaveEnded(t, s, w)
	}
}

// After Done, the pages are the file's, whatever is done with the writer.
func TestDoneEnds(t *testing.T) {
	for _, rows := range [][]api.Row{nil, {nil}, {filled(56)}, {filled(60), filled(200)}} {
		s := newStore(t, 6)
		w := New(s)
		for _, r := range rows {
			mustAdd(t, w, r, api.OK)
		}
		f := mustDone(t, w)
		mustHaveEnded(t, s, w)
		mustLie(t, s, f, len(rows), numbers(need(len(codes(rows)))), codes(rows))
		mustBe(t, f.Open(), rows, api.OK)
	}
}

// Done of no rows needs no page, also where there is none.
func TestDoneOfNothing(t *testing.T) {
	s := newStore(t, 0)
	mustLie(t, s, mustDone(t, New(s)), 0, nil, nil)
	mustLie(t, s, mustDone(t, New(&pages.Store{})), 0, nil, nil)
	mustLie(t, s, mustPut(t, s, nil), 0, nil, nil)
	s = newStore(t, 1)
	w := New(s)
	mustAdd(t, w, filled(56), api.OK)
	mustUse(t, s, 1)
	// The page is complete, so that Done needs no other one.
	mustLie(t, s, mustDone(t, w), 1, []int{0}, code(filled(56)))
}

func TestCancel(t *testing.T) {
	for _, rows := range [][]api.Row{nil, {nil}, {filled(56)}, {filled(60), filled(200)}} {
		s := newStore(t, 8)
		s.Alloc(5)
		s.Free(2)
		was := look(s)
		w := New(s)
		for _, r := range rows {
			mustAdd(t, w, r, api.OK)
		}
		w.Cancel()
		mustBeAs(t, "Cancel", s, was)
		mustHaveEnded(t, s, w)
	}
}

// Pages that were freed may be somebody else's by now, and are left alone by what comes later.
func TestNothingIsFreedTwice(t *testing.T) {
	s := newStore(t, 3)
	w, full := New(s), New(s)
	mustAdd(t, w, filled(112), api.OK)
	w.Cancel()
	mustAdd(t, full, filled(112), api.OK)
	mustAdd(t, full, filled(112), api.ErrFull)
	f := mustPut(t, s, []api.Row{filled(150)})
	f.Drop()
	g := mustPut(t, s, []api.Row{filled(160)})
	mustHaveEnded(t, s, w)
	mustHaveEnded(t, s, full)
	f.Drop()
	mustBe(t, g.Open(), []api.Row{filled(160)}, api.OK)
	mustUse(t, s, 3)
}

// Without a free page, all pages of the writer are freed, those that it took for the same row, too.
func TestAddWithoutRoom(t *testing.T) {
	for free := range 4 {
		for _, ahead := range []int{3, 55, 56, 100} {
			s := newStore(t, 6)
			s.Alloc(6)
			s.Drop([]int{1, 3, 4}[:free])
			if ahead/api.PageRoom > free {
				continue
			}
			was := look(s)
			w := New(s)
			mustAdd(t, w, filled(ahead), api.OK)
			room := (free+1)*api.PageRoom - ahead
			mustAdd(t, w, nulls(33), api.ErrLong)
			mustAdd(t, w, filled(room), api.ErrFull)
			mustBeAs(t, "Add", s, was)
			mustHaveEnded(t, s, w)
			mustNotPut(t, s, []api.Row{filled(ahead), filled(room)}, api.ErrFull)
		}
	}
}

// Bytes less than a page are no reason to refuse a row, but Done is refused.
func TestDoneWithoutRoom(t *testing.T) {
	for free := range 4 {
		for _, more := range []int{3, 20, 55} {
			s := newStore(t, 6)
			s.Alloc(6)
			s.Drop([]int{5, 0, 2}[:free])
			was := look(s)
			w := New(s)
			if free > 0 {
				mustAdd(t, w, filled(free*api.PageRoom), api.OK)
			}
			mustUse(t, s, 6)
			mustAdd(t, w, filled(more), api.OK)
			mustNotDone(t, w, api.ErrFull)
			mustBeAs(t, "Done", s, was)
			mustHaveEnded(t, s, w)
		}
	}
	mustNotPut(t, &pages.Store{}, []api.Row{nil}, api.ErrFull)
}

// A store is used to its last page, and a byte more is too much.
func TestAsMuchAsThereIsRoom(t *testing.T) {
	for most := 1; most <= 5; most++ {
		s := newStore(t, most)
		rows := []api.Row{filled(most*api.PageRoom - 1), nil}
		mustNotPut(t, s, append(rows, nil), api.ErrFull)
		mustNotPut(t, s, []api.Row{filled(most*api.PageRoom + 1)}, api.ErrFull)
		f := mustPut(t, s, rows)
		mustLie(t, s, f, 2, numbers(most), codes(rows))
		mustNotPut(t, s, []api.Row{nil}, api.ErrFull)
		mustBe(t, f.Open(), rows, api.OK)
	}
	s := newStore(t, api.MaxPages)
	rows := slices.Repeat([]api.Row{filled(api.PageRoom)}, api.MaxPages)
	mustNotPut(t, s, append(rows, nil), api.ErrFull)
	mustBe(t, mustPut(t, s, rows).Open(), rows, api.OK)
}
