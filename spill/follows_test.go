package spill

import (
	"math/rand"
	"slices"
	"testing"

	"warp/api"
	"warp/pages"
)

// P17.3 and P17.4: what follows from the other promises; and what all calls keep to.

// Files whose pages lie in between those of others, as they are written at the same time.
func TestRowsByChance(t *testing.T) {
	chance := rand.New(rand.NewSource(3))
	for range 300 {
		s := newStore(t, 1000)
		writers, all := make([]*Writer, 1+chance.Intn(4)), make([][]api.Row, 4)
		for i := range writers {
			writers[i] = New(s)
		}
		for range chance.Intn(100) {
			i := chance.Intn(len(writers))
			r := someRow(chance)
			mustAdd(t, writers[i], r, api.OK)
			all[i] = append(all[i], r)
		}
		for i, w := range writers {
			f := mustDone(t, w)
			mustLie(t, s, f, len(all[i]), f.Pages(), codes(all[i]))
			mustBe(t, f.Open(), all[i], api.OK)
		}
	}
}

// burst changes bits of a page, at least one of them, that lie within so many side by side.
func burst(s *pages.Store, chance *rand.Rand, id, width int) (undo func()) {
	at := chance.Intn(8*api.PageSize - width + 1)
	var bits []int
	for bit := at; bit < at+width; bit++ {
		if bit == at || chance.Intn(2) == 0 {
			bits = append(bits, bit)
		}
	}
	flip := func() {
		for _, bit := range bits {
			s.Flip(id, bit/8, 128>>(bit%8))
		}
	}
	flip()
	return flip
}

// The rows ahead of a spoilt page are told, and then the error, wherever the page is spoilt.
func TestSpoiltPagesByChance(t *testing.T) {
	chance := rand.New(rand.NewSource(4))
	for range 150 {
		s := newStore(t, 500)
		s.Alloc(chance.Intn(20))
		rows := someRows(chance, 40)
		f := mustPut(t, s, rows)
		for place, id := range f.Pages() {
			undo := burst(s, chance, id, 1+chance.Intn(api.BurstBits))
			mustBe(t, f.Open(), rows[:before(rows, place)], api.ErrCorrupt)
			undo()
		}
		mustBe(t, f.Open(), rows, api.OK)
	}
}

// Each bit of the page of a file, by itself.
func TestEachBit(t *testing.T) {
	s := newStore(t, 5)
	rows := []api.Row{filled(50), filled(10), filled(20)}
	f := mustPut(t, s, rows)
	for bit := range 2 * 8 * api.PageSize {
		place, at := bit/8/api.PageSize, bit/8%api.PageSize
		s.Flip(place, at, 1<<(bit%8))
		mustBe(t, f.Open(), rows[:place], api.ErrCorrupt)
		s.Flip(place, at, 1<<(bit%8))
	}
	mustBe(t, f.Open(), rows, api.OK)
}

// book is a store as P17.4 tells of it: which pages are allocated, and of each writer and file what belongs to it.
type book struct {
	used map[int]int // pages, and whose they are
	most int
	ids  [][]int // by writers and files
	rest []int   // bytes that are on no page as yet; -1: the writer has ended
}

// take is one more page of somebody's, the free one with the smallest number; false: there is none.
func (b *book) take(whose int) bool {
	for id := range b.most {
		if _, ok := b.used[id]; !ok {
			b.used[id] = whose
			b.ids[whose] = append(b.ids[whose], id)
			return true
		}
	}
	return false
}

// drop frees what belongs to somebody.
func (b *book) drop(whose int) {
	for _, id := range b.ids[whose] {
		delete(b.used, id)
	}
	b.ids[whose], b.rest[whose] = nil, -1
}

// lay is what an Add of so many bytes answers.
func (b *book) lay(whose, many int) api.Errno {
	if b.rest[whose] < 0 {
		return api.ErrNone
	}
	for b.rest[whose] += many; b.rest[whose] >= api.PageRoom; b.rest[whose] -= api.PageRoom {
		if !b.take(whose) {
			b.drop(whose)
			return api.ErrFull
		}
	}
	return api.OK
}

// done is what a Done answers.
func (b *book) done(whose int) api.Errno {
	if b.rest[whose] < 0 {
		return api.ErrNone
	}
	if b.rest[whose] > 0 && !b.take(whose) {
		b.drop(whose)
		return api.ErrFull
	}
	b.rest[whose] = -1
	return api.OK
}

// agree tells unless just the pages of the book are allocated.
func (b *book) agree(t *testing.T, s *pages.Store, files []*File) {
	t.Helper()
	mustUse(t, s, len(b.used))
	for id := range b.used {
		if _, e := s.Read(id); e != api.OK {
			t.Fatalf("page %d is not allocated, but error %d", id, e)
		}
	}
	for i, f := range files {
		if f != nil && !slices.Equal(f.Pages(), b.ids[i]) {
			t.Fatalf("file %d lies on pages %d, not %d", i, f.Pages(), b.ids[i])
		}
	}
}

// Writers and files by chance, on a store that is often full.
func TestPagesByChance(t *testing.T) {
	chance := rand.New(rand.NewSource(5))
	for range 300 {
		b := &book{used: map[int]int{}, most: chance.Intn(30)}
		s := newStore(t, b.most)
		var writers []*Writer
		var files []*File
		for range 150 {
			if len(writers) == 0 || chance.Intn(10) == 0 {
				writers, files = append(writers, New(s)), append(files, nil)
				b.ids, b.rest = append(b.ids, nil), append(b.rest, 0)
			}
			i := chance.Intn(len(writers))
			w := writers[i]
			switch chance.Intn(8) {
			case 0:
				f, e := w.Done()
				if want := b.done(i); e != want || (f != nil) != (e == api.OK) {
					t.Fatalf("Done is %v and error %d, not error %d", f, e, want)
				}
				if f != nil {
					files[i] = f
				}
			case 1:
				w.Cancel()
				if files[i] == nil {
					b.drop(i)
				}
			case 2:
				files[i].Drop()
				if files[i] != nil {
					b.drop(i)
				}
			default:
				n := 1 + chance.Intn(120)
				mustAdd(t, w, filled(n), b.lay(i, n))
			}
			b.agree(t, s, files)
		}
	}
}

// within is a row as the beginning of greater memory, and that memory.
func within(r api.Row) (front, memory api.Row) {
	memory = append(slices.Clone(r), num(77), num(78), api.Value{Kind: 99})
	return memory[:len(r)], memory
}

// No call changes the rows that it is given, nor keeps them.
func TestRowsAreTheCallers(t *testing.T) {
	s := newStore(t, 20)
	w := New(s)
	want := []api.Row{{num(1), text("a")}, {null}, {}, {long(70), truth(1)}}
	var given, all []api.Row
	for _, r := range want {
		front, memory := within(r)
		given, all = append(given, front), append(all, memory)
		mustAdd(t, w, front, api.OK)
	}
	f := mustPut(t, s, given[:4])
	if Bytes(given) != len(codes(want)) {
		t.Errorf("Bytes is %d", Bytes(given))
	}
	for i, memory := range all {
		if _, was := within(want[i]); !slices.Equal(memory, was) {
			t.Errorf("row %d is now %v", i, memory)
		}
		clear(memory)
	}
	clear(given)
	mustBe(t, f.Open(), want, api.OK)
	mustBe(t, mustDone(t, w).Open(), want, api.OK)
}

// What Pages and Next answer is the caller's, also behind its length.
func TestResultsAreTheCallers(t *testing.T) {
	s := newStore(t, 20)
	want := []api.Row{{num(1), text("a"), null}, {long(60), num(2)}, {null, truth(1)}, filled(90)}
	f := mustPut(t, s, want)
	ids := f.Pages()
	one, two := f.Pages(), f.Open()
	clear(one[:cap(one)])
	var rows []api.Row
	for range want {
		r, _, _ := two.Next()
		rows = append(rows, r)
	}
	for i, r := range rows {
		for _, v := range r[len(r):cap(r)] {
			if v != null {
				t.Errorf("behind row %d lies %v", i, v)
			}
		}
		if !slices.Equal(r, want[i]) {
			t.Errorf("row %d is %v", i, r)
		}
		clear(r[:cap(r)])
	}
	mustNotNext(t, two, api.OK)
	mustLie(t, s, f, len(want), ids, codes(want))
	three := f.Open()
	for _, r := range want {
		front, ok, e := three.Next()
		if !slices.Equal(front, r) || !ok || e != api.OK {
			t.Errorf("Next is %v, %v, %d", front, ok, e)
		}
		clear(front[:cap(front)])
	}
	mustBe(t, f.Open(), want, api.OK)
}

// A row without values is not nil, as only nil means that there is none.
func TestRowsWithoutValuesAreRows(t *testing.T) {
	s := newStore(t, 1)
	c := mustPut(t, s, []api.Row{nil, {}}).Open()
	for range 2 {
		if r, ok, e := c.Next(); r == nil || len(r) != 0 || !ok || e != api.OK {
			t.Errorf("Next is %v, %v and error %d", r, ok, e)
		}
	}
}
