package sorter

import (
	"math/rand"
	"slices"
	"testing"

	"warp/api"
	"warp/order"
	"warp/pages"
	"warp/purse"
	"warp/spill"
)

// P18.4: what follows from the other promises; and what all calls keep to.

// Memory for fan rows as large as the largest one is enough, and so are pages for all rows twice and one for each run.
func TestRoomIsEnough(t *testing.T) {
	chance := rand.New(rand.NewSource(9))
	for round := range 3000 {
		rows, keys := someRows(chance, 80, chance.Intn(1+round%90)), someKeys(chance)
		fan := 2 + chance.Intn(15)
		left := fan * largest(rows)
		runs, e := Runs(rows, left)
		if e != api.OK {
			t.Fatalf("Runs is error %d", e)
		}
		free := pages.Need(2*spill.Bytes(rows)) + runs
		if m := mustSort(t, rows, keys, fan, left, free); m.e != api.OK {
			t.Fatalf("Sort is error %d", m.e)
		}
		// More of either does no harm.
		mustSort(t, rows, keys, fan, left+chance.Intn(500), free+chance.Intn(5))
	}
}

// Memory is enough with just as much as the first rows of fan runs need, and short rows fill pages no worse than long ones.
func TestRoomIsJustEnough(t *testing.T) {
	for fan := 2; fan <= api.MaxLists; fan++ {
		for _, r := range []api.Row{nil, {null}, {num(1)}, sized(1, 69), sized(1, 70), sized(1, 71), sized(1, 500)} {
			for _, many := range []int{fan + 1, fan*fan + 1, 2*fan*fan + fan} {
				rows := slices.Repeat([]api.Row{r}, many)
				left := fan * purse.Row(r)
				runs, _ := Runs(rows, left)
				free := pages.Need(2*spill.Bytes(rows)) + runs
				if free > 4000 {
					continue
				}
				if m := mustSort(t, rows, nil, fan, left, free); m.e != api.OK || m.peak != left {
					t.Fatalf("fan %d, %d rows %s: error %d, and %d of %d held", fan, many, shown(r), m.e, m.peak, left)
				}
			}
		}
	}
}

// Sort of rows that are in order already leaves them as they are.
func TestSortOfSorted(t *testing.T) {
	chance := rand.New(rand.NewSource(10))
	for range 300 {
		keys := someKeys(chance)
		rows := order.Sort(someRows(chance, 60, 20), keys)
		fan := 2 + chance.Intn(15)
		mustBe(t, rows, keys, fan, fan*largest(rows), 300, rows)
	}
}

// laid is rows that share one array, each with room up to the array's end, and the array.
func laid() ([]api.Row, []api.Value) {
	memory := []api.Value{num(3), text("a"), num(1), text("b"), num(2), text("c"), num(1), text("d"), null, num(9)}
	rows := []api.Row{memory[0:2], memory[2:4], memory[4:6], memory[6:8], memory[0:1], memory[8:8], memory[0:2]}
	return rows, memory
}

// limits is how much may be held so that the rows of laid make from one to six runs.
func limits() []int { return []int{1000, 150, 100, 60, 50} }

// No call changes what it is given, nor reads what lies beyond.
func TestArgumentsStay(t *testing.T) {
	for _, left := range limits() {
		o := newRoom(t, left, 20)
		all, memory := laid()
		rows := all[:5]
		wasRows, was, values := deep(all), slices.Clone(all), slices.Clone(memory)
		keys := some(down(0), up(1), up(7), down(2))
		held := slices.Clone(keys)
		for range 2 {
			l, e := Sort(o.s, o.p, rows, keys[:2], 2)
			if e != api.OK || !same(l, order.Sort(deep(rows), keys[:2])) {
				t.Fatalf("Sort is %s and error %d", shown(l), e)
			}
			Runs(rows, left)
		}
		for i := range all {
			if len(all[i]) != len(was[i]) || cap(all[i]) != cap(was[i]) {
				t.Errorf("row %d is now %v", i, all[i])
			}
		}
		if !same(all, wasRows) || !slices.Equal(memory, values) || !slices.Equal(keys, held) {
			t.Errorf("arguments are now %v, %v, %v", all, memory, keys)
		}
	}
}

// wipe clears a result, and all memory behind it and its rows.
func wipe(l []api.Row) {
	for _, r := range l {
		clear(r[:cap(r)])
	}
	clear(l[:cap(l)])
}

// What Sort answers is memory of its own, and each row of it, too, however many runs there were.
func TestResultsOwnTheirMemory(t *testing.T) {
	for _, left := range limits() {
		o := newRoom(t, left, 20)
		sort := func(rows []api.Row) []api.Row {
			l, e := Sort(o.s, o.p, rows, some(up(0)), 2)
			if e != api.OK {
				t.Fatalf("Sort is error %d", e)
			}
			return l
		}
		rows, memory := laid()
		values, want := slices.Clone(memory), deep(sort(rows))
		for i := range want {
			l, left := sort(rows), deep(want)
			wipe(l[i : i+1 : i+1])
			if left[i] = nil; !same(l, left) {
				t.Fatalf("row %d of an answer was wiped, and it is now %v, not %v", i, l, left)
			}
		}
		a, b := sort(rows), sort(rows)
		wipe(a)
		if !same(b, want) || !slices.Equal(memory, values) {
			t.Fatalf("an answer that was wiped makes another one %v, and the arguments %v", b, rows)
		}
		// Nor does an answer change with the arguments, or with what is sorted later.
		clear(memory)
		sort(rows)
		if !same(b, want) {
			t.Fatalf("arguments that were wiped make an answer %v", b)
		}
	}
}
