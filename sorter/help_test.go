package sorter

import (
	"fmt"
	"math/rand"
	"slices"
	"strings"
	"testing"

	"warp/api"
	"warp/cell"
	"warp/order"
	"warp/pages"
	"warp/purse"
	"warp/spill"
)

// What the tests of this package share.

var null = api.Value{}

// num and text are values.
func num(n int) api.Value { return api.Value{Kind: api.Int, N: n} }

func text(s string) api.Value { return api.Value{Kind: api.Text, S: s} }

// up and down are keys.
func up(col int) api.Key { return api.Key{Col: col} }

func down(col int) api.Key { return api.Key{Col: col, Down: true} }

// some is a list of keys.
func some(keys ...api.Key) []api.Key { return keys }

// ints is rows of one integer each, which count for 16 each.
func ints(l ...int) []api.Row {
	var rows []api.Row
	for _, n := range l {
		rows = append(rows, api.Row{num(n)})
	}
	return rows
}

// sized is a row that counts for so much, from 16 on, and comes before or after others by n.
func sized(n, size int) api.Row {
	return api.Row{text(fmt.Sprintf("%0*d", size-16, n))}
}

// nulls is a row of so many values, each of which counts for 8 and takes a byte.
func nulls(many int) api.Row { return make(api.Row, many) }

// someRow is a row by chance, of few values, so that rows often stand alike.
func someRow(chance *rand.Rand, size int) api.Row {
	values := []api.Value{null, num(-1), num(0), num(1), num(1 << 40), text("a"), text("b"), {Kind: api.Bool, N: 1}, text(strings.Repeat("x", chance.Intn(size+1)))}
	var r api.Row
	for range chance.Intn(4) {
		r = append(r, values[chance.Intn(len(values))])
	}
	return r
}

// someRows is at most so many rows by chance, with texts of at most so many bytes.
func someRows(chance *rand.Rand, most, size int) []api.Row {
	var rows []api.Row
	for range chance.Intn(most + 1) {
		rows = append(rows, someRow(chance, size))
	}
	return rows
}

// someKeys is at most three keys by chance, of columns that rows have, or not.
func someKeys(chance *rand.Rand) []api.Key {
	var keys []api.Key
	for range chance.Intn(4) {
		keys = append(keys, api.Key{Col: chance.Intn(5) - 1, Down: chance.Intn(2) == 0})
	}
	return keys
}

// largest is how much the largest of rows counts for.
func largest(rows []api.Row) int {
	n := 0
	for _, r := range rows {
		n = max(n, purse.Row(r))
	}
	return n
}

// same tells whether a and b are the same rows, nil and empty ones being the same.
func same(a, b []api.Row) bool {
	return slices.EqualFunc(a, b, func(r, s api.Row) bool { return slices.Equal(r, s) })
}

// deep is rows in memory of their own.
func deep(rows []api.Row) []api.Row {
	var l []api.Row
	for _, r := range rows {
		l = append(l, append(api.Row{}, r...))
	}
	return l
}

// shown is what is too long to be told as a whole.
func shown(x any) string {
	return fmt.Sprintf("%.300s", fmt.Sprint(x))
}

// model is a Sort in the words of P18.1, with lists of rows instead of files.
type model struct {
	keys       []api.Key
	left, free int // how much may be held, and how many pages may be allocated
	held, peak int // how much is held, and was at most
	used, most int // how many pages are allocated, and were at most
	e          api.Errno
	runs       []list
	cut, times int // how many runs were made of the rows, and how many times runs were merged
}

// list is the rows of a file, and how many bytes and pages they take.
type list struct {
	rows         []api.Row
	bytes, pages int
}

// modelOf is what Sort does.
func modelOf(rows []api.Row, keys []api.Key, fan, left, free int) ([]api.Row, *model) {
	m := &model{keys: keys, left: left, free: free}
	l := m.sort(rows, fan)
	if m.e != api.OK {
		return nil, m
	}
	return l, m
}

// sort is the rows in order, if there is no error.
func (m *model) sort(rows []api.Row, fan int) []api.Row {
	var now []api.Row
	for _, r := range rows {
		if !m.take(r) && len(now) > 0 {
			m.make(now)
			now = nil
			m.take(r)
		}
		if m.held == 0 {
			m.fail(api.ErrBudget)
		}
		now = append(now, r)
	}
	if len(m.runs) == 0 {
		m.cut = min(1, len(now))
		return order.Sort(now, m.keys)
	}
	m.make(now)
	m.cut = len(m.runs)
	for ; len(m.runs) > fan && m.e == api.OK; m.times++ {
		m.pass(fan)
	}
	m.times++
	var l []api.Row
	m.merge(m.runs, func(r api.Row) { l = append(l, r) })
	return l
}

// fail keeps the first error.
func (m *model) fail(e api.Errno) {
	if m.e == api.OK {
		m.e = e
	}
}

// take holds a row, if it is permitted; nothing happens after an error.
func (m *model) take(r api.Row) bool {
	n := 8 + 8*len(r)
	for _, v := range r {
		n += len(v.S)
	}
	if m.e != api.OK || m.held+n > m.left {
		return false
	}
	m.held += n
	m.peak = max(m.peak, m.held)
	return true
}

// make makes a run of the rows that are held.
func (m *model) make(rows []api.Row) {
	var l list
	for _, r := range order.Sort(rows, m.keys) {
		m.add(&l, r)
	}
	m.done(&l)
	m.runs = append(m.runs, l)
	m.held = 0
}

// add writes a row.
func (m *model) add(l *list, r api.Row) {
	if len(r) > 32 {
		m.fail(api.ErrLong)
	}
	for _, v := range r {
		if !cell.Right(v) {
			m.fail(api.ErrType)
		}
	}
	l.rows = append(l.rows, r)
	l.bytes += spill.Bytes([]api.Row{r})
	m.extend(l, l.bytes/56)
}

// done writes what is left of the last page.
func (m *model) done(l *list) {
	m.extend(l, (l.bytes+55)/56)
}

// extend allocates pages, so that a list has so many.
func (m *model) extend(l *list, pages int) {
	if m.used+pages-l.pages > m.free {
		m.fail(api.ErrFull)
	}
	if m.e == api.OK {
		m.used += pages - l.pages
		m.most = max(m.most, m.used)
		l.pages = pages
	}
}

// pass merges each group of runs.
func (m *model) pass(fan int) {
	var merged []list
	for group := range slices.Chunk(m.runs, fan) {
		if len(group) == 1 {
			merged = append(merged, group[0])
			continue
		}
		var l list
		m.merge(group, func(r api.Row) { m.add(&l, r) })
		m.done(&l)
		for _, old := range group {
			m.used -= old.pages
		}
		merged = append(merged, l)
	}
	m.runs = merged
}

// merge passes on the rows of runs, always one that no other first row is before.
func (m *model) merge(runs []list, pass func(r api.Row)) {
	left := slices.Clone(runs)
	for _, l := range left {
		m.first(l)
	}
	for m.e == api.OK {
		best := -1
		for i, l := range left {
			if len(l.rows) > 0 && (best < 0 || order.Compare(l.rows[0], left[best].rows[0], m.keys) < 0) {
				best = i
			}
		}
		if best < 0 {
			return
		}
		r := left[best].rows[0]
		pass(r)
		m.held -= purse.Row(r)
		left[best].rows = left[best].rows[1:]
		m.first(left[best])
	}
}

// first holds the first row of a list, if there is one.
func (m *model) first(l list) {
	if len(l.rows) > 0 && !m.take(l.rows[0]) {
		m.fail(api.ErrBudget)
	}
}

// room is a store and a purse of which something is in use already.
type room struct {
	s    *pages.Store
	p    *purse.Purse
	was  []string // the pages' bytes
	held int
}

// newRoom is a store with so many free pages, among three others, and a purse with so much left.
func newRoom(t *testing.T, left, free int) *room {
	t.Helper()
	s, e := pages.New(free + 3)
	if e != api.OK {
		t.Fatalf("pages.New(%d) is error %d", free+3, e)
	}
	p, e := purse.New(left + 40)
	if e != api.OK {
		t.Fatalf("purse.New(%d) is error %d", left+40, e)
	}
	s.Alloc(s.Most())
	for id := range s.Most() {
		if id == 0 || id == s.Most()/2 || id == s.Most()-1 {
			s.Write(id, []byte{byte(id), 7})
		} else {
			s.Free(id)
		}
	}
	p.Take(40)
	return &room{s: s, p: p, was: look(s), held: p.Now()}
}

// look is the bytes of all pages by their numbers, empty where a page is free.
func look(s *pages.Store) []string {
	var l []string
	for id := range s.Most() {
		b, _ := s.Raw(id)
		l = append(l, string(b))
	}
	return l
}

// mustBeAsBefore tells unless all that was taken is free again.
func (o *room) mustBeAsBefore(t *testing.T) {
	t.Helper()
	if o.p.Now() != o.held {
		t.Fatalf("%d is held, not %d", o.p.Now(), o.held)
	}
	if now := look(o.s); !slices.Equal(now, o.was) {
		t.Fatalf("the pages are not as they were: %d are allocated", o.s.Used())
	}
}

// mustSort tells unless Sort does as the model, with so much left and so many pages free; and the model.
func mustSort(t *testing.T, rows []api.Row, keys []api.Key, fan, left, free int) *model {
	t.Helper()
	o := newRoom(t, left, free)
	want, m := modelOf(rows, keys, fan, left, free)
	if m.e == api.OK && !same(want, order.Sort(rows, keys)) {
		t.Fatalf("the model is wrong: %s", shown(want))
	}
	got, e := Sort(o.s, o.p, rows, keys, fan)
	about := fmt.Sprintf("Sort of %d rows %s by %v, with %d left, %d pages free and fan %d,", len(rows), shown(rows), keys, left, free, fan)
	if e != m.e || !same(got, want) {
		t.Fatalf("%s is %s and error %d, not %s and error %d", about, shown(got), e, shown(want), m.e)
	}
	if peak := o.p.Peak() - o.held; peak != m.peak {
		t.Fatalf("%s holds %d at most, not %d", about, peak, m.peak)
	}
	o.mustBeAsBefore(t)
	return m
}

// mustNeed tells unless Sort does as the model where there are just as many pages as it needs, and where there is one less.
func mustNeed(t *testing.T, rows []api.Row, keys []api.Key, fan, left int) *model {
	t.Helper()
	_, m := modelOf(rows, keys, fan, left, api.MaxPages)
	if m.e != api.OK {
		t.Fatalf("Sort of %s with %d left is error %d", shown(rows), left, m.e)
	}
	mustSort(t, rows, keys, fan, left, m.most)
	if m.most == 0 {
		return m
	}
	if less := mustSort(t, rows, keys, fan, left, m.most-1); less.e != api.ErrFull {
		t.Fatalf("Sort of %s on %d pages is error %d", shown(rows), m.most-1, less.e)
	}
	return m
}

// mustFail tells unless Sort has that error, and so does the model.
func mustFail(t *testing.T, rows []api.Row, keys []api.Key, fan, left, free int, want api.Errno) {
	t.Helper()
	if m := mustSort(t, rows, keys, fan, left, free); m.e != want {
		t.Fatalf("Sort of %s with %d left, %d pages free and fan %d is error %d, not %d", shown(rows), left, free, fan, m.e, want)
	}
}
