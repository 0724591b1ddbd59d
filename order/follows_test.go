package order

import (
	"fmt"
	"math/rand"
	"slices"
	"testing"

	"warp/api"
)

// P15.3: what follows from the other promises; and what all calls keep to.

// counted is how often each row stands in rows.
func counted(rows []api.Row) map[string]int {
	many := map[string]int{}
	for _, r := range rows {
		many[fmt.Sprintf("%#v", r)]++
	}
	return many
}

// mustBeSameRows tells unless a and b are the same rows in some order.
func mustBeSameRows(t *testing.T, a, b []api.Row) {
	t.Helper()
	if x, y := counted(a), counted(b); len(a) != len(b) || fmt.Sprint(x) != fmt.Sprint(y) {
		t.Fatalf("%s are not %s", shown(a), shown(b))
	}
}

// Sort has the same rows, in order, and leaves those in order as they are.
func TestSortOfSorted(t *testing.T) {
	chance := rand.New(rand.NewSource(4))
	for range 2000 {
		rows, keys := someRows(chance, chance.Intn(80), 4), someKeys(chance, 4)
		l := Sort(rows, keys)
		mustBeSameRows(t, l, rows)
		mustBeSorted(t, l, keys, true)
		mustSort(t, l, keys, l)
		mustBeSorted(t, rows, keys, same(l, rows))
	}
}

// The Merge of two lists in order is the Sort of their concatenation; of others, it still has all rows of both.
func TestMergeIsSort(t *testing.T) {
	chance := rand.New(rand.NewSource(5))
	for range 2000 {
		a, b := someRows(chance, chance.Intn(50), 4), someRows(chance, chance.Intn(50), 4)
		keys := someKeys(chance, 4)
		mustBeSameRows(t, Merge(a, b, keys), slices.Concat(a, b))
		x, y := Sort(a, keys), Sort(b, keys)
		mustMerge(t, x, y, keys, Sort(slices.Concat(a, b), keys))
		mustMerge(t, x, y, keys, Sort(slices.Concat(x, y), keys))
	}
}

// What is in order by keys is so by those that they begin with.
func TestBeginsMeansOrder(t *testing.T) {
	chance := rand.New(rand.NewSource(6))
	for range 2000 {
		rows, keys := someRows(chance, chance.Intn(30), 4), someKeys(chance, 4)
		l := Sort(rows, keys)
		for many := range len(keys) + 1 {
			mustBegin(t, keys, keys[:many], true)
			mustBeSorted(t, l, keys[:many], true)
		}
	}
}

// laid is rows that share one array, each with room up to the array's end, and the array.
func laid() ([]api.Row, []api.Value) {
	memory := []api.Value{num(3), num(0), num(1), num(1), num(2), num(2), num(9), num(9)}
	return []api.Row{memory[0:2], memory[2:4], memory[4:6], memory[0:2]}, memory
}

// No call changes what it is given, or reads what lies beyond its length.
func TestArgumentsStay(t *testing.T) {
	rows, memory := laid()
	was, values := deep(rows), slices.Clone(memory)
	keys := some(up(0), down(1), up(7))
	held := slices.Clone(keys)
	for range 2 {
		mustRight(t, 2, keys[:2], api.OK)
		mustCompare(t, rows[0], rows[1], keys[:2], 1)
		mustSort(t, rows[:3], keys[:2], pairs([2]int{1, 1}, [2]int{2, 2}, [2]int{3, 0}))
		mustBeSorted(t, rows[1:3], keys[:2], true)
		mustBeSorted(t, rows[:0], keys[:2], true)
		mustMerge(t, rows[:1], rows[1:3], keys[:2], pairs([2]int{1, 1}, [2]int{2, 2}, [2]int{3, 0}))
		mustMerge(t, rows[:2], nil, keys[:2], was[:2])
		mustBegin(t, keys[:2], keys[:1], true)
	}
	if !same(rows, was) || !slices.Equal(memory, values) || !slices.Equal(keys, held) {
		t.Errorf("arguments are now %v, %v, %v", rows, memory, keys)
	}
}

// wipe clears a result, and all memory behind it and its rows.
func wipe(l []api.Row) {
	for _, r := range l {
		clear(r[:cap(r)])
	}
	clear(l[:cap(l)])
}

// mustShareNothing tells unless a row of an answer can be wiped and all others stay.
func mustShareNothing(t *testing.T, call func() []api.Row) {
	t.Helper()
	for i := range call() {
		l := call()
		want := deep(l)
		wipe(l[i : i+1 : i+1])
		if want[i] = nil; !same(l, want) {
			t.Fatalf("row %d of an answer was wiped, and it is now %v, not %v", i, l, want)
		}
	}
}

// mustOwn tells unless what call answers for the rows of laid is memory of its own, and each row of it, too.
func mustOwn(t *testing.T, call func(rows []api.Row) []api.Row) {
	t.Helper()
	rows, memory := laid()
	was, values := deep(rows), slices.Clone(memory)
	mustShareNothing(t, func() []api.Row { return call(rows) })
	one, two := call(rows), call(rows)
	want := deep(two)
	wipe(one)
	if !same(two, want) || !same(rows, was) || !slices.Equal(memory, values) {
		t.Fatalf("an answer that was wiped makes another one %v, and the arguments %v and %v", two, rows, memory)
	}
	// Nor does an answer change with the arguments.
	wipe(rows)
	if !same(two, want) {
		t.Fatalf("arguments that were wiped make an answer %v", two)
	}
}

func TestResultsOwnTheirMemory(t *testing.T) {
	for _, keys := range [][]api.Key{nil, some(up(0)), some(down(0), up(1))} {
		mustOwn(t, func(rows []api.Row) []api.Row { return Sort(rows, keys) })
		mustOwn(t, func(rows []api.Row) []api.Row { return Sort(rows[:1], keys) })
		mustOwn(t, func(rows []api.Row) []api.Row { return Merge(rows, rows, keys) })
		mustOwn(t, func(rows []api.Row) []api.Row { return Merge(rows[1:], rows[:2], keys) })
		mustOwn(t, func(rows []api.Row) []api.Row { return Merge(rows, nil, keys) })
		mustOwn(t, func(rows []api.Row) []api.Row { return Merge(nil, rows, keys) })
	}
}
