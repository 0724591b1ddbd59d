package spill

import (
	"bytes"
	"slices"
	"testing"

	"warp/api"
	"warp/cell"
	"warp/octets"
	"warp/pages"
)

// P17.2: rows one by one, and what may be wrong with their pages.

func TestNext(t *testing.T) {
	s := newStore(t, api.MaxPages)
	mustBe(t, mustPut(t, s, edges()).Open(), edges(), api.OK)
	for _, r := range edges() {
		f := mustPut(t, s, []api.Row{r})
		mustBe(t, f.Open(), []api.Row{r}, api.OK)
		f.Drop()
	}
}

// pagesOf is rows that end ahead of, at and behind the ends of pages, in all ways.
func pagesOf() [][]api.Row {
	return [][]api.Row{
		{nil}, {filled(56)}, {filled(57)}, {filled(55), nil, nil}, {filled(112), filled(56)}, {filled(400)}, slices.Repeat([]api.Row{nil}, 170),
		{filled(30), filled(30), filled(30), filled(30), filled(30), filled(30)}, {nulls(32), nulls(32), nulls(32), nulls(32)}, {filled(54), {num(-1 << 63)}, {num(1 << 62)}},
		{filled(53), {long(248)}, {long(300), long(300)}}, {filled(55), {long(248)}}, {filled(54), {long(1024)}, {truth(1)}}, {filled(54), {truth(0)}, {null, num(5)}},
	}
}

// A page is read when the first row is asked for that is not complete without it: not ahead of that, and not again.
func TestPagesAreReadWhenNeeded(t *testing.T) {
	for _, rows := range pagesOf() {
		s := newStore(t, 40)
		f := mustPut(t, s, rows)
		c, end, spoilt := f.Open(), 0, len(f.Pages())
		for _, id := range f.Pages() {
			s.Flip(id, 1, 1)
		}
		for _, r := range rows {
			// Only the pages that this row needs are whole while it is asked for.
			from := need(end)
			end += len(code(r))
			for _, id := range f.Pages()[from:need(end)] {
				s.Flip(id, 1, 1)
			}
			mustNext(t, c, r)
			for _, id := range f.Pages()[from:need(end)] {
				s.Flip(id, 1, 1)
			}
		}
		if need(end) != spoilt {
			t.Fatalf("%d pages, not %d", spoilt, need(end))
		}
		mustNotNext(t, c, api.OK)
		mustNotNext(t, f.Open(), api.ErrCorrupt)
	}
}

// The error of each page, spoilt or free, comes after the rows that need it not, and for good.
func TestErrorsOfPages(t *testing.T) {
	for _, rows := range pagesOf() {
		for place := range need(len(codes(rows))) {
			s := newStore(t, 40)
			s.Alloc(place)
			f := mustPut(t, s, rows)
			id := f.Pages()[place]
			content, _ := s.Read(id)
			s.Flip(id, place, 16)
			spoilt := f.Open()
			mustBe(t, spoilt, rows[:before(rows, place)], api.ErrCorrupt)
			s.Free(id)
			free := f.Open()
			mustBe(t, free, rows[:before(rows, place)], api.ErrNone)
			// Mended, it makes no difference to those that have met it.
			s.Alloc(1)
			s.Write(id, content)
			mustNotNext(t, spoilt, api.ErrCorrupt)
			mustNotNext(t, free, api.ErrNone)
			mustBe(t, f.Open(), rows, api.OK)
		}
	}
}

// The first page with an error tells which.
func TestErrorsOfSeveralPages(t *testing.T) {
	s := newStore(t, 10)
	f := mustPut(t, s, []api.Row{filled(300)})
	s.Free(4)
	s.Flip(2, 1, 1)
	mustNotNext(t, f.Open(), api.ErrCorrupt)
	s.Free(1)
	mustNotNext(t, f.Open(), api.ErrNone)
}

// What some bytes make of a file that had so many rows.
type reading struct {
	many  int
	bytes []byte
	rows  []api.Row
	want  api.Errno
}

// mustRead tells unless a file of one page and so many rows is read so, with these bytes on it.
func mustRead(t *testing.T, x reading) {
	t.Helper()
	s := newStore(t, 1)
	f := mustPut(t, s, make([]api.Row, x.many))
	mustHold(t, s, f, x.bytes)
	mustBe(t, f.Open(), x.rows, x.want)
}

// A page may hold bytes that were written as they are, and are no row.
func TestWrongBytes(t *testing.T) {
	for _, x := range []reading{
		{1, []byte{1, 4}, nil, api.ErrCorrupt}, {1, []byte{1, 255}, nil, api.ErrCorrupt}, {2, []byte{1, 0, 1, 9}, []api.Row{{null}}, api.ErrCorrupt},
		// No truth, an integer and a length that have shorter encodings, and a string that is too long.
		{1, []byte{1, 1, 1}, nil, api.ErrCorrupt}, {1, []byte{1, 1, 4}, nil, api.ErrCorrupt}, {1, []byte{1, 1, 248, 248}, nil, api.ErrCorrupt},
		{1, []byte{1, 2, 248, 247}, nil, api.ErrCorrupt}, {1, []byte{1, 2, 249, 0, 248}, nil, api.ErrCorrupt}, {1, []byte{1, 2, 255, 0, 1, 1, 1, 1, 1, 1, 1}, nil, api.ErrCorrupt},
		{1, []byte{1, 3, 248, 5}, nil, api.ErrCorrupt}, {1, []byte{1, 3, 249, 0, 255}, nil, api.ErrCorrupt}, {1, []byte{1, 3, 249, 4, 1}, nil, api.ErrCorrupt}, {1, []byte{1, 3, 255, 128}, nil, api.ErrCorrupt},
		// A number of values that has a shorter encoding, and numbers that no page has room for.
		{1, []byte{248, 0}, nil, api.ErrCorrupt}, {1, []byte{248, 1, 0}, nil, api.ErrCorrupt}, {1, []byte{249, 0, 255}, nil, api.ErrCorrupt}, {1, []byte{248, 247}, nil, api.ErrCorrupt},
		{1, []byte{248, 248}, nil, api.ErrCorrupt}, {1, []byte{255, 128}, nil, api.ErrCorrupt}, {1, bytes.Repeat([]byte{255}, 56), nil, api.ErrCorrupt}, {1, []byte{255, 127, 255, 255, 255, 255, 255, 255, 255}, nil, api.ErrCorrupt},
		// Rows behind the last byte.
		{1, []byte{56}, nil, api.ErrCorrupt}, {1, []byte{3, 3, 53}, nil, api.ErrCorrupt}, {1, []byte{2, 3, 53}, nil, api.ErrCorrupt}, {2, []byte{55}, []api.Row{nulls(55)}, api.ErrCorrupt}, {56, []byte{1}, append([]api.Row{{null}}, make([]api.Row, 54)...), api.ErrCorrupt},
	} {
		mustRead(t, x)
	}
}

// Bytes that are rows are these rows, wherever they come from, also with more values than Add takes.
func TestOtherRows(t *testing.T) {
	for _, x := range []reading{
		{1, []byte{1, 1, 2}, []api.Row{{truth(1)}}, api.OK}, {2, []byte{1, 0}, []api.Row{{null}, nil}, api.OK}, {1, nil, []api.Row{nil}, api.OK},
		{1, []byte{2, 3, 52}, []api.Row{{text(string(make([]byte, 52))), null}}, api.OK}, {1, []byte{1, 3, 53}, []api.Row{{text(string(make([]byte, 53)))}}, api.OK},
		{1, []byte{33}, []api.Row{nulls(33)}, api.OK}, {1, []byte{55}, []api.Row{nulls(55)}, api.OK}, {1, append([]byte{40}, bytes.Repeat([]byte{1, 2, 0}, 15)...), []api.Row{slices.Concat(slices.Repeat(api.Row{truth(1), null}, 15), nulls(10))}, api.OK},
	} {
		mustRead(t, x)
	}
}

// Behind the last row there are bytes 0 alone, up to the end of its page.
func TestBytesBehindTheLastRow(t *testing.T) {
	rows := []api.Row{{num(5)}, {truth(1)}}
	for _, extra := range [][]api.Row{nil, rows} {
		all := append(slices.Clone(rows), extra...)
		for at := len(codes(all)); at < api.PageRoom; at++ {
			s := newStore(t, 1)
			f := mustPut(t, s, all)
			for _, b := range []byte{1, 128, 255} {
				content := append(codes(all), make([]byte, api.PageRoom-len(codes(all)))...)
				content[at] = b
				mustHold(t, s, f, content)
				mustBe(t, f.Open(), all, api.ErrCorrupt)
			}
		}
	}
	// The page of fewer rows than there were.
	mustRead(t, reading{1, codes(rows), rows[:1], api.ErrCorrupt})
}

// No page follows that of the last row, whatever is on it, or if it is free.
func TestPagesBehindTheLastRow(t *testing.T) {
	for _, content := range [][]byte{nil, {1, 0}, code(filled(56)), make([]byte, 56)} {
		for _, first := range [][]byte{code(filled(56)), code(filled(20)), {0}} {
			s := newStore(t, 3)
			f := mustPut(t, s, []api.Row{filled(90)})
			mustHold(t, s, f, first, content)
			want := []api.Row{nil}
			if len(first) > 1 {
				want = []api.Row{filled(len(first))}
			}
			mustBe(t, f.Open(), want, api.ErrCorrupt)
			s.Flip(1, 1, 1)
			mustBe(t, f.Open(), want, api.ErrCorrupt)
			s.Free(1)
			mustBe(t, f.Open(), want, api.ErrCorrupt)
		}
	}
}

// A row that goes on behind the last page.
func TestRowsThatAreCutOff(t *testing.T) {
	for _, r := range append(edges(), filled(112)) {
		b := code(r)
		if len(b) < 113 {
			continue
		}
		s := newStore(t, 2)
		f := mustPut(t, s, []api.Row{filled(112)})
		mustHold(t, s, f, b[:56], b[56:112])
		mustNotNext(t, f.Open(), api.ErrCorrupt)
		f.Drop()
		f = mustPut(t, s, append(make([]api.Row, 55), filled(57)))
		mustHold(t, s, f, append(make([]byte, 55), b[0]), b[1:57])
		mustBe(t, f.Open(), make([]api.Row, 55), api.ErrCorrupt)
	}
}

// atEnd is what Next tells of the last row of a file whose first page ends with these bytes, and whose second page is free: ErrNone if that one is needed.
func atEnd(t *testing.T, s *pages.Store, b []byte) (api.Row, api.Errno) {
	t.Helper()
	ahead := api.PageRoom - len(b)
	f := mustPut(t, s, append(make([]api.Row, ahead), filled(57)))
	mustHold(t, s, f, append(make([]byte, ahead), b...))
	s.Free(f.Pages()[1])
	c := f.Open()
	for range ahead {
		mustNext(t, c, nil)
	}
	r, _, e := c.Next()
	f.Drop()
	return r, e
}

// shortStrings is all strings of at most so many of the bytes, and at least one.
func shortStrings(of []byte, most int) [][]byte {
	all := [][]byte{nil}
	for from := 0; len(all[from]) < most; from++ {
		for _, b := range of {
			all = append(all, append(slices.Clone(all[from]), b))
		}
	}
	return all[1:]
}

// completes tells whether some bytes behind b make it one that is whole. Of bytes that are to follow, the first ones tell how many, so that they are tried in many ways.
func completes(b []byte, whole func([]byte) bool) bool {
	for _, next := range shortStrings([]byte{0, 1, 4, 248, 255}, 2) {
		for _, more := range []byte{0, 255} {
			if whole(slices.Concat(b, next, bytes.Repeat([]byte{more}, api.MaxText))) {
				return true
			}
		}
	}
	return false
}

// Where a page ends within a value, the next page is needed; where no value begins, it is not.
func TestValuesAtTheEndOfAPage(t *testing.T) {
	s := newStore(t, 2)
	whole := func(b []byte) bool { _, _, e := cell.Take(b); return e == api.OK }
	for _, b := range shortStrings([]byte{0, 1, 2, 3, 4, 5, 9, 247, 248, 249, 250, 255}, 4) {
		r, e := atEnd(t, s, append([]byte{1}, b...))
		v, _, taken := cell.Take(b)
		switch {
		case taken == api.OK:
			if e != api.OK || !slices.Equal(r, api.Row{v}) {
				t.Fatalf("%d is %v and error %d", b, r, e)
			}
		case completes(b, whole):
			if e != api.ErrNone {
				t.Fatalf("%d is %v and error %d, but the next page is needed", b, r, e)
			}
		case e != api.ErrCorrupt:
			t.Fatalf("%d is %v and error %d, but no value", b, r, e)
		}
	}
}

// The same of the number of values.
func TestNumbersAtTheEndOfAPage(t *testing.T) {
	s := newStore(t, 2)
	whole := func(b []byte) bool { r := octets.New(b); r.Num(); return !r.Bad() }
	for _, first := range []byte{248, 249, 250, 251, 254, 255} {
		for _, b := range append(shortStrings([]byte{0, 1, 247, 248, 255}, 3), nil) {
			b = append([]byte{first}, b...)
			want := api.ErrCorrupt
			if len(b) <= int(first)-246 && completes(b, whole) {
				want = api.ErrNone
			}
			if len(b) > int(first)-246 {
				continue // its values are no matter of this test
			}
			if r, e := atEnd(t, s, b); r != nil || e != want {
				t.Fatalf("%d is %v and error %d, not error %d", b, r, e, want)
			}
		}
	}
	for n := byte(1); n < 248; n++ {
		if r, e := atEnd(t, s, []byte{n}); r != nil || e != api.ErrNone {
			t.Fatalf("%d is %v and error %d", n, r, e)
		}
	}
}
