package losers

import (
	"math/rand"
	"slices"
	"testing"

	"warp/api"
	"warp/order"
)

// P16.4: what follows from the other promises; and what all calls keep to.

// The Merge of lists in order is the stable sort of their concatenation.
func TestMergeIsSort(t *testing.T) {
	chance := rand.New(rand.NewSource(4))
	for range 3000 {
		all, keys := someLists(chance, 20, 3), someKeys(chance, 3)
		want := order.Sort(slices.Concat(all...), keys)
		for i, l := range all {
			all[i] = order.Sort(l, keys)
		}
		mustMerge(t, all, keys, want)
		mustMerge(t, all, keys, order.Sort(slices.Concat(all...), keys))
	}
}

// Where each row tells whence it comes, those that stand alike are in the order of the lists.
func TestMergeIsStable(t *testing.T) {
	chance := rand.New(rand.NewSource(5))
	for many := range 17 {
		all := make([][]api.Row, many)
		for i := range 4000 {
			if many > 0 {
				at := chance.Intn(many)
				all[at] = append(all[at], api.Row{num(chance.Intn(50)), num(i)})
			}
		}
		for i, l := range all {
			all[i] = order.Sort(l, some(down(0)))
		}
		mustMerge(t, all, some(down(0)), order.Sort(slices.Concat(all...), some(down(0))))
	}
}

// laid is lists of rows that share one array, each with room up to the array's end, and the array.
func laid() ([][]api.Row, []api.Value) {
	memory := []api.Value{num(3), num(0), num(1), num(1), num(2), num(2), num(9), num(9)}
	rows := []api.Row{memory[2:4], memory[0:2], memory[4:6], memory[6:8], memory[2:4]}
	return [][]api.Row{rows[0:2], rows[2:4], rows[0:2], nil, rows[4:4]}, memory
}

// No call changes what it is given.
func TestArgumentsStay(t *testing.T) {
	all, memory := laid()
	was, values := slices.Clone(all), slices.Clone(memory)
	rows := deep(all[0][:5])
	keys := some(up(0), down(1), up(7))
	held := slices.Clone(keys)
	for range 2 {
		mustMerge(t, all, keys[:1], []api.Row{rows[0], rows[0], rows[2], rows[1], rows[1], rows[3]})
		tree := mustNew(t, all[0], keys[:2])
		mustComeNext(t, tree, 0)
		mustPut(t, tree, memory[4:5], api.OK)
		mustComeNext(t, tree, 0)
		mustPut(t, tree, nil, api.OK)
		mustComeNext(t, tree, 1)
	}
	for i := range all {
		if len(all[i]) != len(was[i]) || len(all[i]) > 0 && &all[i][0] != &was[i][0] {
			t.Errorf("list %d is now %v, not %v", i, all[i], was[i])
		}
	}
	if !same(all[0][:5], rows) || !slices.Equal(memory, values) || !slices.Equal(keys, held) {
		t.Errorf("arguments are now %v, %v, %v", all, memory, keys)
	}
}

// spoil puts other values into a row.
func spoil(chance *rand.Rand, r api.Row) {
	for i := range r {
		r[i] = num(chance.Intn(200) - 100)
	}
}

// What a tree was given may change: the tree keeps heads, rows and keys of its own.
func TestTreeKeepsNoArguments(t *testing.T) {
	chance := rand.New(rand.NewSource(6))
	for round := range 500 {
		heads, keys := someRows(chance, round%17, 3), someKeys(chance, 3)
		now, by := deep(heads), slices.Clone(keys)
		tree := mustNew(t, heads, keys)
		for _, r := range heads {
			spoil(chance, r)
		}
		clear(heads)
		for i := range keys {
			keys[i] = api.Key{Col: -1}
		}
		for put := range 60 {
			mustBeFirstOf(t, tree, now, by)
			i, ok := tree.Next()
			if !ok {
				break
			}
			var r api.Row
			if put < 30 {
				r = someRow(chance, 3)
			}
			now[i] = deep([]api.Row{r})[0]
			mustPut(t, tree, r, api.OK)
			spoil(chance, r)
		}
	}
}

// A tree has nothing to do with another one of the same heads.
func TestTreesShareNothing(t *testing.T) {
	heads := ints(1, 2)
	a, b := mustNew(t, heads, nil), mustNew(t, heads, nil)
	mustPut(t, a, nil, api.OK)
	mustComeNext(t, a, 1)
	mustComeNext(t, b, 0)
	if a.Asked() != b.Asked() {
		t.Errorf("Asked is %d and %d", a.Asked(), b.Asked())
	}
}

// What lies beyond the length of a row or of the keys is not read.
func TestNothingBeyondIsRead(t *testing.T) {
	memory := []api.Value{num(1), num(9), num(1), num(5)}
	heads := []api.Row{memory[0:1], memory[2:3]}
	keys := some(up(0), up(1))
	mustComeNext(t, mustNew(t, heads, keys), 0)
	mustComeNext(t, mustNew(t, []api.Row{memory[0:2], memory[2:4]}, keys[:1]), 0)
	mustComeNext(t, mustNew(t, []api.Row{memory[0:2], memory[2:4]}, keys), 1)
	mustMerge(t, [][]api.Row{heads[:1], heads[1:]}, keys, ints(1, 1))
}

// wipe clears a result, and all memory behind it and its rows.
func wipe(l []api.Row) {
	for _, r := range l {
		clear(r[:cap(r)])
	}
	clear(l[:cap(l)])
}

// What Merge answers is memory of its own, and each row of it, too.
func TestResultsOwnTheirMemory(t *testing.T) {
	for _, keys := range [][]api.Key{nil, some(up(0)), some(down(0), up(1))} {
		all, memory := laid()
		values := slices.Clone(memory)
		want, _ := Merge(all, keys)
		want = deep(want)
		for i := range want {
			l, _ := Merge(all, keys)
			left := deep(want)
			wipe(l[i : i+1 : i+1])
			if left[i] = nil; !same(l, left) {
				t.Fatalf("row %d of an answer was wiped, and it is now %v, not %v", i, l, left)
			}
		}
		a, _ := Merge(all, keys)
		b, _ := Merge(all, keys)
		wipe(a)
		if !same(b, want) || !slices.Equal(memory, values) {
			t.Fatalf("an answer that was wiped makes another one %v, and the arguments %v", b, all)
		}
		// Nor does an answer change with the arguments.
		clear(memory)
		if !same(b, want) {
			t.Fatalf("arguments that were wiped make an answer %v", b)
		}
	}
}
