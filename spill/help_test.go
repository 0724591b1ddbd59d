package spill

import (
	"bytes"
	"encoding/binary"
	"fmt"
	"math"
	"math/rand"
	"slices"
	"strings"
	"testing"

	"warp/api"
	"warp/pages"
)

// What the tests of this package share.

var null = api.Value{}

// truth, num and text are values.
func truth(n int) api.Value { return api.Value{Kind: api.Bool, N: n} }

func num(n int) api.Value { return api.Value{Kind: api.Int, N: n} }

func text(s string) api.Value { return api.Value{Kind: api.Text, S: s} }

// long is a text of so many bytes.
func long(n int) api.Value { return text(strings.Repeat("x", n)) }

// filled is a row whose encoding has just so many bytes, from 1 to 1000: one text, and where the length of a longer one would need one more byte, Null behind it.
func filled(n int) api.Row {
	if n == 1 {
		return nil
	}
	for size := n - 3; size >= max(0, n-5); size-- {
		if r := (api.Row{long(size)}); len(code(r)) == n {
			return r
		}
	}
	return append(filled(n-1), null)
}

// nulls is a row of so many values.
func nulls(many int) api.Row { return make(api.Row, many) }

// wrong is values that are not valid.
func wrong() []api.Value {
	return []api.Value{
		{N: 1}, {S: "x"}, truth(2), truth(-1), {Kind: api.Bool, S: "x"}, {Kind: api.Int, N: 5, S: "x"}, {Kind: api.Text, N: 1},
		{Kind: 4}, {Kind: 255}, {Kind: 200, N: 7, S: "x"}, long(api.MaxText + 1), long(70000),
	}
}

// codeNum is the encoding of an unsigned integer, in the words of layer 1.
func codeNum(n uint64) []byte {
	if n < 248 {
		return []byte{byte(n)}
	}
	b := bytes.TrimLeft(binary.BigEndian.AppendUint64(nil, n), "\x00")
	return append([]byte{byte(247 + len(b))}, b...)
}

// codeInt is the encoding of an integer.
func codeInt(n int) []byte {
	if n < 0 {
		return codeNum(2*uint64(-1-n) + 1)
	}
	return codeNum(2 * uint64(n))
}

// code is the encoding of a row, in the words of the chapter.
func code(r api.Row) []byte {
	b := codeNum(uint64(len(r)))
	for _, v := range r {
		switch {
		case v.Kind == api.Bool && (v.N == 0 || v.N == 1) && v.S == "":
			b = append(b, 1, byte(2*v.N))
		case v.Kind == api.Int && v.S == "":
			b = append(append(b, 2), codeInt(v.N)...)
		case v.Kind == api.Text && v.N == 0 && len(v.S) <= api.MaxText:
			b = append(append(append(b, 3), codeNum(uint64(len(v.S)))...), v.S...)
		default:
			b = append(b, 0)
		}
	}
	return b
}

// codes is the encodings of rows, one behind the other.
func codes(rows []api.Row) []byte {
	var b []byte
	for _, r := range rows {
		b = append(b, code(r)...)
	}
	return b
}

// need is how many pages so many bytes fill, the last one in part.
func need(n int) int { return (n + 55) / 56 }

// before is how many of the rows lie completely ahead of a page, by its place among the pages.
func before(rows []api.Row, page int) int {
	end := 0
	for i, r := range rows {
		if end += len(code(r)); end > 56*page {
			return i
		}
	}
	return len(rows)
}

// edges is rows of all sorts: of no values and of as many as may be, with integers and texts at the edges of their encodings.
func edges() []api.Row {
	rows := []api.Row{nil, {}, {null}, {truth(0)}, {truth(1), null, truth(0)}, nulls(32), {text("")}, {text("\x00")}, {text("\xff\x80")}}
	for _, n := range []int{0, 1, -1, 123, 124, -124, -125, 127, 128, 1 << 15, 1 << 31, -1 << 47, math.MaxInt, math.MinInt, math.MaxInt / 2, -1 << 62} {
		rows = append(rows, api.Row{num(n), text("ä"), num(-n)})
	}
	for _, n := range []int{51, 52, 53, 54, 55, 56, 57, 111, 112, 247, 248, 255, 256, 257, 1023, 1024} {
		rows = append(rows, api.Row{long(n)})
	}
	return append(rows, slices.Repeat(api.Row{long(1024)}, 32), slices.Repeat(api.Row{num(math.MinInt)}, 32), nil)
}

// someRow is a row by chance.
func someRow(chance *rand.Rand) api.Row {
	values := []api.Value{null, truth(0), truth(1), num(chance.Intn(300) - 150), num(int(chance.Uint64())), text("ab"), long(chance.Intn(30)), text("\x00\x00")}
	if chance.Intn(30) == 0 {
		values = append(values, long(chance.Intn(api.MaxText+1)))
	}
	var r api.Row
	for range chance.Intn(6) {
		r = append(r, values[chance.Intn(len(values))])
	}
	return r
}

// someRows is at most so many rows by chance.
func someRows(chance *rand.Rand, most int) []api.Row {
	var rows []api.Row
	for range chance.Intn(most + 1) {
		rows = append(rows, someRow(chance))
	}
	return rows
}

// same tells whether a and b are the same rows, nil and empty ones being the same.
func same(a, b []api.Row) bool {
	return slices.EqualFunc(a, b, func(r, s api.Row) bool { return slices.Equal(r, s) })
}

// shown is what is too long to be told as a whole.
func shown(x any) string {
	return fmt.Sprintf("%.300s", fmt.Sprint(x))
}

// newStore is a store of so many pages.
func newStore(t *testing.T, most int) *pages.Store {
	t.Helper()
	s, e := pages.New(most)
	if e != api.OK {
		t.Fatalf("pages.New(%d) is error %d", most, e)
	}
	return s
}

// look is the bytes of all pages by their numbers, empty where a page is free.
func look(s *pages.Store) []string {
	var l []string
	for id := range s.Most() {
		b, _ := s.Raw(id)
		l = append(l, string(b))
	}
	return l
}

// mustBeAs tells unless the pages are as they were.
func mustBeAs(t *testing.T, about string, s *pages.Store, was []string) {
	t.Helper()
	if !slices.Equal(look(s), was) {
		t.Fatalf("%s: the pages are not as they were", about)
	}
}

// mustUse tells unless so many pages are allocated.
func mustUse(t *testing.T, s *pages.Store, want int) {
	t.Helper()
	if got := s.Used(); got != want {
		t.Fatalf("%d pages are allocated, not %d", got, want)
	}
}

// mustAdd tells unless Add of a row is as wanted.
func mustAdd(t *testing.T, w *Writer, r api.Row, want api.Errno) {
	t.Helper()
	if e := w.Add(r); e != want {
		t.Fatalf("Add(%s) is error %d, not %d", shown(r), e, want)
	}
}

// mustDone is the file of a writer.
func mustDone(t *testing.T, w *Writer) *File {
	t.Helper()
	f, e := w.Done()
	if f == nil || e != api.OK {
		t.Fatalf("Done is %v and error %d", f, e)
	}
	return f
}

// mustNotDone tells unless Done has that error.
func mustNotDone(t *testing.T, w *Writer, want api.Errno) {
	t.Helper()
	if f, e := w.Done(); f != nil || e != want {
		t.Fatalf("Done is %v and error %d, not error %d", f, e, want)
	}
}

// mustPut is the file of rows.
func mustPut(t *testing.T, s *pages.Store, rows []api.Row) *File {
	t.Helper()
	f, e := Put(s, rows)
	if f == nil || e != api.OK {
		t.Fatalf("Put(%s) is %v and error %d", shown(rows), f, e)
	}
	return f
}

// mustNotPut tells unless Put has that error, and leaves the pages as they were.
func mustNotPut(t *testing.T, s *pages.Store, rows []api.Row, want api.Errno) {
	t.Helper()
	was := look(s)
	if f, e := Put(s, rows); f != nil || e != want {
		t.Fatalf("Put(%s) is %v and error %d, not error %d", shown(rows), f, e, want)
	}
	mustBeAs(t, "Put", s, was)
}

// mustLie tells unless a file has so many rows, lies on those pages, and they hold these bytes.
func mustLie(t *testing.T, s *pages.Store, f *File, many int, ids []int, content []byte) {
	t.Helper()
	if f.Many() != many || !slices.Equal(f.Pages(), ids) {
		t.Fatalf("Many is %d and Pages %d, not %d and %d", f.Many(), f.Pages(), many, ids)
	}
	if got, e := s.Get(ids, len(content)); e != api.OK || !bytes.Equal(got, content) {
		t.Fatalf("on pages %d lies %d and error %d, not %d", ids, got, e, content)
	}
}

// mustNext tells unless the next row is r.
func mustNext(t *testing.T, c *Cursor, r api.Row) {
	t.Helper()
	if got, ok, e := c.Next(); !slices.Equal(got, r) || !ok || e != api.OK {
		t.Fatalf("Next is %s, %v and error %d, not %s", shown(got), ok, e, shown(r))
	}
}

// mustNotNext tells unless there is no next row, but that error, or none, and so again.
func mustNotNext(t *testing.T, c *Cursor, want api.Errno) {
	t.Helper()
	for range 3 {
		if r, ok, e := c.Next(); r != nil || ok || e != want {
			t.Fatalf("Next is %s, %v and error %d, not error %d", shown(r), ok, e, want)
		}
	}
}

// mustBe tells unless a cursor's rows are these, and then there is that error, or none.
func mustBe(t *testing.T, c *Cursor, rows []api.Row, want api.Errno) {
	t.Helper()
	for _, r := range rows {
		mustNext(t, c, r)
	}
	mustNotNext(t, c, want)
}

// mustHold tells unless the pages of a file, which lies on them alone, hold other content now.
func mustHold(t *testing.T, s *pages.Store, f *File, content ...[]byte) {
	t.Helper()
	for i, b := range content {
		if e := s.Write(f.Pages()[i], b); e != api.OK {
			t.Fatalf("Write is error %d", e)
		}
	}
}
