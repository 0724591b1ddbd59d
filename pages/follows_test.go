package pages

import (
	"bytes"
	"math/rand"
	"slices"
	"testing"

	"warp/api"
)

// P5.4: what was put is got until a page of it is freed, written or spoilt, and no burst goes unseen.

// burst flips the bits of a page that are 1 in pattern, whose highest bit of width bits lies at bit at of the page.
func burst(s *Store, id, at, width int, pattern uint64) {
	for i := range width {
		if pattern>>(width-1-i)&1 == 1 {
			bit := at + i
			s.Flip(id, bit/8, 128>>(bit%8))
		}
	}
}

// patterns is bursts of just so many bits, the first and the last of which are changed.
func patterns(chance *rand.Rand, width int) []uint64 {
	ends := uint64(1)<<(width-1) | 1
	all := uint64(1)<<width - 1
	return []uint64{ends, all, chance.Uint64()&all | ends, chance.Uint64()&all | ends}
}

// Bursts of up to 32 bits at each bit of a page, in the content, in the number, in the checksum and over their borders.
func TestBursts(t *testing.T) {
	chance := rand.New(rand.NewSource(1))
	s := newStore(t, 4)
	b := letters(8, 2*api.PageRoom+20)
	mustPut(t, s, b, []int{0, 1, 2})
	ids := []int{0, 1, 2}
	for width := 1; width <= api.BurstBits; width++ {
		for at := range 8*api.PageSize - width + 1 {
			id := at % 3
			for _, p := range patterns(chance, width) {
				burst(s, id, at, width, p)
				if content, e := s.Read(id); e != api.ErrCorrupt || len(content) != 0 {
					t.Fatalf("a burst %#x of %d bits from bit %d of page %d on: Read is %d and error %d", p, width, at, id, content, e)
				}
				if at%17 == 0 {
					mustNotGet(t, s, ids, len(b), api.ErrCorrupt)
				}
				burst(s, id, at, width, p)
				if at%17 == 0 {
					mustGet(t, s, ids, b)
				}
			}
		}
	}
	mustGet(t, s, ids, b)
}

// Flips on top of each other count by what they leave behind.
func TestFlipsOnFlips(t *testing.T) {
	chance := rand.New(rand.NewSource(2))
	s := newStore(t, 1)
	b := letters(4, api.PageRoom)
	mustPut(t, s, b, []int{0})
	good := image(0, b)
	for range 3000 {
		at := chance.Intn(api.PageSize - 3)
		for range 1 + chance.Intn(6) {
			s.Flip(0, at+chance.Intn(4), byte(chance.Intn(256)))
		}
		raw, _ := s.Raw(0)
		if bytes.Equal(raw, good) {
			mustRead(t, s, 0, b)
		} else {
			mustNotRead(t, s, 0, api.ErrCorrupt)
			mustNotGet(t, s, []int{0}, len(b), api.ErrCorrupt)
		}
		overwrite(t, s, 0, good)
		mustGet(t, s, []int{0}, b)
	}
}

// A burst in each of a store's pages: each of them is told, and each is told of alone.
func TestBurstInEachPage(t *testing.T) {
	s := full(t, 20)
	for id := range 20 {
		s.Flip(id, 3*id, 64)
		for other := range 20 {
			if other <= id {
				mustNotRead(t, s, other, api.ErrCorrupt)
			} else {
				mustRead(t, s, other, letters(other, api.PageRoom))
			}
		}
	}
}

// What was put is got as long as its pages are left alone, whatever becomes of the others.
func TestGetAsLongAsLeftAlone(t *testing.T) {
	s := newStore(t, 12)
	one, two, three := letters(1, 100), letters(2, 150), letters(3, 57)
	mustPut(t, s, one, []int{0, 1})
	mustPut(t, s, two, []int{2, 3, 4})
	mustPut(t, s, three, []int{5, 6})
	s.Flip(3, 10, 1)
	mustNotGet(t, s, []int{2, 3, 4}, 150, api.ErrCorrupt)
	mustWrite(t, s, 5, letters(9, api.PageRoom))
	mustGet(t, s, []int{5, 6}, append(letters(9, api.PageRoom), three[api.PageRoom:]...))
	mustGet(t, s, []int{0, 1}, one)
	mustFree(t, s, 6, api.OK)
	mustNotGet(t, s, []int{5, 6}, 57, api.ErrNone)
	s.Drop([]int{2, 3, 4})
	mustPut(t, s, letters(4, 200), []int{2, 3, 4, 6})
	mustGet(t, s, []int{2, 3, 4, 6}, letters(4, 200))
	mustGet(t, s, []int{0, 1}, one)
	mustFree(t, s, 0, api.OK)
	mustNotGet(t, s, []int{0, 1}, 100, api.ErrNone)
	mustAlloc(t, s, 1, []int{0}) // allocated again, it holds what it held no more
	mustGet(t, s, []int{0, 1}, append(make([]byte, api.PageRoom), one[api.PageRoom:]...))
}

// model is a store as the chapter words it: the bytes of its pages by their numbers.
type model struct {
	most  int
	bytes map[int][]byte
}

// alloc is the n free pages with the smallest numbers, allocated; false if there are not as many.
func (m *model) alloc(n int) ([]int, bool) {
	if n > m.most-len(m.bytes) {
		return nil, false
	}
	var ids []int
	for id := 0; len(ids) < n; id++ {
		if m.bytes[id] == nil {
			m.bytes[id] = image(id, nil)
			ids = append(ids, id)
		}
	}
	return ids, true
}

// agree tells unless the store is as the model.
func (m *model) agree(t *testing.T, s *Store) {
	t.Helper()
	mustHave(t, s, len(m.bytes), m.most)
	for id := -1; id <= m.most; id++ {
		b := m.bytes[id]
		if b == nil {
			mustNotRead(t, s, id, api.ErrNone)
			continue
		}
		mustBeRaw(t, s, id, b)
		if bytes.Equal(b, image(id, b[:api.PageRoom])) {
			mustRead(t, s, id, b[:api.PageRoom])
		} else {
			mustNotRead(t, s, id, api.ErrCorrupt)
		}
	}
}

// step does the same by chance to both.
func (m *model) step(t *testing.T, s *Store, chance *rand.Rand) {
	t.Helper()
	id := chance.Intn(m.most+2) - 1
	b := letters(chance.Intn(99), chance.Intn(70))
	switch chance.Intn(6) {
	case 0:
		n := chance.Intn(4)
		want, ok := m.alloc(n)
		if ids, e := s.Alloc(n); (e == api.OK) != ok || !slices.Equal(ids, want) {
			t.Errorf("Alloc(%d) is %d and error %d, not %d", n, ids, e, want)
		}
	case 1:
		s.Free(id)
		delete(m.bytes, id)
	case 2:
		s.Write(id, b)
		if m.bytes[id] != nil && len(b) <= api.PageRoom {
			m.bytes[id] = image(id, b)
		}
	case 3:
		at, mask := chance.Intn(api.PageSize+2)-1, byte(chance.Intn(256))
		s.Flip(id, at, mask)
		if m.bytes[id] != nil && at >= 0 && at < api.PageSize {
			m.bytes[id][at] ^= mask
		}
	case 4:
		want, ok := m.alloc((len(b) + 55) / 56)
		for i, p := range want {
			m.bytes[p] = image(p, b[56*i:min(56*i+56, len(b))])
		}
		if ids, e := s.Put(b); (e == api.OK) != ok || !slices.Equal(ids, want) {
			t.Errorf("Put of %d bytes is %d and error %d, not %d", len(b), ids, e, want)
		}
	case 5:
		s.Drop([]int{id, id + 1})
		delete(m.bytes, id)
		delete(m.bytes, id+1)
	}
}

// Long rows of calls by chance, held against the model.
func TestAgainstTheModel(t *testing.T) {
	for seed := range 20 {
		chance := rand.New(rand.NewSource(int64(seed)))
		m := &model{most: seed, bytes: map[int][]byte{}}
		s := newStore(t, m.most)
		for range 150 {
			m.step(t, s, chance)
			m.agree(t, s)
			if t.Failed() {
				t.Fatalf("seed %d", seed)
			}
		}
	}
}
