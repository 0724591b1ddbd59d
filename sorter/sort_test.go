package sorter

import (
	"math/rand"
	"slices"
	"strings"
	"testing"

	"warp/api"
	"warp/order"
	"warp/pages"
	"warp/purse"
)

// P18.1: what Sort answers, what it holds at most, and how many pages it needs.

// mustBe tells unless Sort answers these rows.
func mustBe(t *testing.T, rows []api.Row, keys []api.Key, fan, left, free int, want []api.Row) {
	t.Helper()
	o := newRoom(t, left, free)
	if got, e := Sort(o.s, o.p, rows, keys, fan); e != api.OK || !same(got, want) {
		t.Fatalf("Sort of %s by %v, with %d left, is %s and error %d, not %s", shown(rows), keys, left, shown(got), e, shown(want))
	}
	o.mustBeAsBefore(t)
}

// The chapter's example, and what it needs.
func TestExample(t *testing.T) {
	rows, keys := ints(3, 1, 2), some(up(0))
	for _, fan := range []int{2, 3, 16} {
		mustBe(t, rows, keys, fan, 32, 2, ints(1, 2, 3))
		mustFail(t, rows, keys, fan, 32, 1, api.ErrFull)
		mustFail(t, rows, keys, fan, 31, 10, api.ErrBudget)
		mustFail(t, rows, keys, fan, 15, 10, api.ErrBudget)
		// All rows are held at once: no page is needed.
		mustBe(t, rows, keys, fan, 48, 0, ints(1, 2, 3))
		mustFail(t, rows, keys, fan, 47, 0, api.ErrFull)
	}
	if m := mustNeed(t, rows, keys, 2, 32); m.cut != 2 || m.peak != 32 || m.most != 2 {
		t.Errorf("%d runs, %d held and %d pages", m.cut, m.peak, m.most)
	}
}

// Where a store or a purse is missing, and where the fan is wrong, whatever else is wrong.
func TestArguments(t *testing.T) {
	o := newRoom(t, 20, 5)
	inputs := [][]api.Row{nil, ints(1), ints(3, 1, 2), {nulls(33), nil}, {sized(0, 500)}}
	fans := []int{-1 << 63, -1 << 32, -16, -2, -1, 0, 1, 17, 18, 32, 1<<32 + 2, 1<<63 - 1}
	for _, rows := range inputs {
		for _, fan := range append(fans, 2, 3, 16) {
			for _, call := range []struct {
				s *pages.Store
				p *purse.Purse
			}{{nil, o.p}, {o.s, nil}, {nil, nil}} {
				if l, e := Sort(call.s, call.p, rows, some(up(0)), fan); l != nil || e != api.ErrNone {
					t.Errorf("without a store or a purse, Sort is %s and error %d", shown(l), e)
				}
			}
		}
		for _, fan := range fans {
			if l, e := Sort(o.s, o.p, rows, some(up(0)), fan); l != nil || e != api.ErrArg {
				t.Errorf("Sort with fan %d is %s and error %d", fan, shown(l), e)
			}
		}
	}
	o.mustBeAsBefore(t)
	if o.p.Peak() != o.held {
		t.Errorf("%d was held at most", o.p.Peak())
	}
}

// Each fan that may be.
func TestFans(t *testing.T) {
	for fan := 2; fan <= api.MaxLists; fan++ {
		mustBe(t, ints(3, 1, 2), some(up(0)), fan, 1000, 0, ints(1, 2, 3))
		mustBe(t, ints(3, 1, 2, 0), some(down(0)), fan, 48, 9, ints(3, 2, 1, 0))
	}
}

// No rows need nothing: neither memory nor pages.
func TestNoRows(t *testing.T) {
	for _, rows := range [][]api.Row{nil, {}} {
		if m := mustSort(t, rows, some(up(0)), 2, 0, 0); m.e != api.OK || m.peak != 0 {
			t.Errorf("error %d, and %d was held", m.e, m.peak)
		}
	}
	if l, e := Sort(&pages.Store{}, &purse.Purse{}, nil, nil, 2); len(l) != 0 || e != api.OK {
		t.Errorf("Sort is %s and error %d", shown(l), e)
	}
}

// Rows that are held at once are never written, so that any row will do.
func TestRowsThatAreNotWritten(t *testing.T) {
	wrong := []api.Row{nulls(33), {{Kind: 9}}, {text(strings.Repeat("x", 2000))}, {{N: 4}}}
	left := purse.Rows(wrong)
	mustBe(t, wrong, some(up(0)), 2, left, 0, order.Sort(wrong, some(up(0))))
	mustFail(t, wrong, some(up(0)), 2, left-1, 100, api.ErrLong)
	mustFail(t, wrong[1:], some(up(0)), 2, left-purse.Row(wrong[0])-1, 0, api.ErrType)
}

// Each limit from nothing to more than all rows, each fan, and pages as many as needed and one less.
func TestAllLimits(t *testing.T) {
	chance := rand.New(rand.NewSource(1))
	var rows []api.Row
	for i := range 24 {
		rows = append(rows, sized(chance.Intn(9), 17+i*7%29))
	}
	for left := 0; left <= purse.Rows(rows)+1; left += 1 + left/50 {
		for _, fan := range []int{2, 3, 4, 7, 16} {
			if mustSort(t, rows, some(down(0)), fan, left, 300).e == api.OK {
				mustNeed(t, rows, some(down(0)), fan, left)
			}
		}
	}
}

// equal is rows that count for so much each, and no two of which stand alike.
func equal(chance *rand.Rand, many, size int) []api.Row {
	var rows []api.Row
	for _, n := range chance.Perm(many) {
		rows = append(rows, sized(n, size))
	}
	return rows
}

// As many runs as can be merged at once, one more, and so on over several passes.
func TestPasses(t *testing.T) {
	chance := rand.New(rand.NewSource(2))
	for _, c := range []struct{ fan, runs, times int }{
		{2, 2, 1}, {2, 3, 2}, {2, 4, 2}, {2, 5, 3}, {2, 8, 3}, {2, 9, 4}, {2, 33, 6},
		{3, 3, 1}, {3, 4, 2}, {3, 9, 2}, {3, 10, 3}, {3, 28, 4},
		{7, 7, 1}, {7, 8, 2}, {7, 49, 2}, {7, 50, 3},
		{16, 16, 1}, {16, 17, 2}, {16, 33, 2}, {16, 256, 2}, {16, 257, 3},
	} {
		for _, size := range []int{20, 33} {
			// The most that leaves each run so many rows.
			left := (c.fan+1)*size - 1
			m := mustNeed(t, equal(chance, c.runs*c.fan, size), some(up(0)), c.fan, left)
			if m.cut != c.runs || m.times != c.times {
				t.Fatalf("fan %d: %d runs are merged %d times, not %d runs %d times", c.fan, m.cut, m.times, c.runs, c.times)
			}
			mustNeed(t, equal(chance, c.runs*c.fan-1, size), some(down(0)), c.fan, c.fan*size)
		}
	}
}

// A group of one run is left as it is: there are no pages for it twice.
func TestGroupOfOneRun(t *testing.T) {
	// A run of 37 rows, one of 3 rows, and the last row by itself, which takes 10 pages.
	rows := append(slices.Repeat([]api.Row{nulls(1)}, 40), sized(1, 560))
	m := mustNeed(t, rows, some(up(0)), 2, 600)
	if m.cut != 3 || m.times != 2 || m.most != 2+1+10+2 {
		t.Errorf("%d runs, merged %d times, need %d pages", m.cut, m.times, m.most)
	}
	// It is left as it is by more than one pass.
	rows = append(slices.Repeat([]api.Row{nulls(1)}, 4*37), sized(1, 560))
	m = mustNeed(t, rows, some(down(0)), 2, 600)
	if m.cut != 5 || m.times != 3 || m.most != 3+3+10+6 {
		t.Errorf("%d runs, merged %d times, need %d pages", m.cut, m.times, m.most)
	}
}

// The runs of a group are dropped before the next group is merged, but not before its own run is complete.
func TestRunsAreDroppedInTime(t *testing.T) {
	chance := rand.New(rand.NewSource(3))
	// 8 runs of two rows of 56 bytes each: 16 pages, and then as many as one group needs.
	m := mustNeed(t, equal(chance, 16, 69), some(up(0)), 2, 140)
	if m.cut != 8 || m.times != 3 || m.most != 16+8 {
		t.Errorf("%d runs, merged %d times, need %d pages", m.cut, m.times, m.most)
	}
	// Where a run's last page is not complete, it is one of those that lie side by side.
	m = mustNeed(t, equal(chance, 4, 40), some(up(0)), 2, 80)
	if m.cut != 2 || m.times != 1 || m.most != 2 {
		t.Errorf("%d runs, merged %d times, need %d pages", m.cut, m.times, m.most)
	}
	m = mustNeed(t, equal(chance, 6, 40), some(up(0)), 2, 80)
	if m.cut != 3 || m.times != 2 || m.most != 3+2 {
		t.Errorf("%d runs, merged %d times, need %d pages", m.cut, m.times, m.most)
	}
}

// Rows that stand alike keep their order, over all runs and passes.
func TestSortIsStable(t *testing.T) {
	chance := rand.New(rand.NewSource(4))
	for fan := 2; fan <= api.MaxLists; fan++ {
		for _, most := range []int{1, 2, 7} {
			var rows []api.Row
			for i := range 300 {
				rows = append(rows, api.Row{num(chance.Intn(most)), num(i)})
			}
			for _, keys := range [][]api.Key{some(up(0)), some(down(0)), nil, some(up(5))} {
				mustBe(t, rows, keys, fan, 24*fan, 500, order.Sort(rows, keys))
			}
		}
	}
}

// Rows of no values, which count for 8 and lie on pages as one byte each; nil or not.
func TestRowsWithoutValues(t *testing.T) {
	rows := slices.Repeat([]api.Row{nil, {}, {null}, {num(3)}, nil}, 20)
	for fan := range 15 {
		mustNeed(t, rows, some(up(0)), fan+2, 16*(fan+2))
		mustNeed(t, rows, some(down(0)), fan+2, 200)
		mustNeed(t, slices.Repeat([]api.Row{nil}, 100), nil, fan+2, 8*(fan+2))
	}
}

// Rows that count for more than a page, and rows of as many values as may be written.
func TestLongRows(t *testing.T) {
	rows := []api.Row{{text(strings.Repeat("b", 1024))}, nulls(32), {text(strings.Repeat("a", 1024))}, {num(1)}}
	rows = append(rows, slices.Repeat(api.Row{text(strings.Repeat("c", 1000))}, 32), nil)
	rows = append(rows, rows...)
	for _, left := range []int{2 * largest(rows), 3 * largest(rows), purse.Rows(rows) - 1, purse.Rows(rows)} {
		mustNeed(t, rows, some(up(0)), 2, left)
	}
}

// As many rows as a table has, each with a run of its own, or two.
func TestManyRows(t *testing.T) {
	chance := rand.New(rand.NewSource(5))
	var rows []api.Row
	for i := range api.MaxRows {
		rows = append(rows, api.Row{num(chance.Intn(1000)), num(i)})
	}
	for _, c := range []struct{ fan, left int }{{2, 48}, {3, 72}, {16, 384}, {16, 24 * 300}, {5, 24*api.MaxRows - 1}, {2, 24 * api.MaxRows}} {
		mustBe(t, rows, some(down(0)), c.fan, c.left, 4000, order.Sort(rows, some(down(0))))
	}
}

// Rows, keys and limits by chance.
func TestSortByChance(t *testing.T) {
	chance := rand.New(rand.NewSource(6))
	seen := map[api.Errno]int{}
	for range 4000 {
		rows, keys := someRows(chance, 60, chance.Intn(100)), someKeys(chance)
		fan := 2 + chance.Intn(1+chance.Intn(15))
		left := chance.Intn(1 + chance.Intn(2+largest(rows)*2*fan))
		m := mustSort(t, rows, keys, fan, left, chance.Intn(100))
		seen[m.e]++
		if m.e == api.OK && chance.Intn(4) == 0 {
			mustNeed(t, rows, keys, fan, left)
		}
	}
	if seen[api.OK] < 500 || seen[api.ErrBudget] < 500 || seen[api.ErrFull] < 200 {
		t.Errorf("too few of some errors: %v", seen)
	}
}
