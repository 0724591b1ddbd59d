package losers

import (
	"fmt"
	"math/rand"
	"slices"
	"testing"

	"warp/api"
	"warp/order"
)

// What the tests of this package share.

var null = api.Value{}

// num and text are values.
func num(n int) api.Value { return api.Value{Kind: api.Int, N: n} }

func text(s string) api.Value { return api.Value{Kind: api.Text, S: s} }

// up and down are keys.
func up(col int) api.Key { return api.Key{Col: col} }

func down(col int) api.Key { return api.Key{Col: col, Down: true} }

// some is a list of keys.
func some(keys ...api.Key) []api.Key { return keys }

// one is a row of one integer.
func one(n int) api.Row { return api.Row{num(n)} }

// ints is rows of one integer each.
func ints(l ...int) []api.Row {
	var rows []api.Row
	for _, n := range l {
		rows = append(rows, one(n))
	}
	return rows
}

// lists is all lists of so many of the items.
func lists[T any](items []T, many int) [][]T {
	all := [][]T{nil}
	for range many {
		var longer [][]T
		for _, l := range all {
			for _, x := range items {
				longer = append(longer, append(slices.Clone(l), x))
			}
		}
		all = longer
	}
	return all
}

// shortLists is all lists of at most so many of the items.
func shortLists[T any](items []T, many int) [][]T {
	var all [][]T
	for n := range many + 1 {
		all = append(all, lists(items, n)...)
	}
	return all
}

// someRow is a row by chance of so many columns at most, of few values, so that rows often stand alike; it is never nil.
func someRow(chance *rand.Rand, cols int) api.Row {
	values := []api.Value{null, num(-1), num(0), num(1), text("a"), text("b"), {Kind: api.Bool, N: 1}, {S: "x"}, {Kind: 9}}
	r := api.Row{}
	for range chance.Intn(cols + 1) {
		r = append(r, values[chance.Intn(len(values))])
	}
	return r
}

// someRows is so many rows by chance.
func someRows(chance *rand.Rand, many, cols int) []api.Row {
	var rows []api.Row
	for range many {
		rows = append(rows, someRow(chance, cols))
	}
	return rows
}

// someLists is at most MaxLists lists by chance of at most so many rows each, some of which are none.
func someLists(chance *rand.Rand, most, cols int) [][]api.Row {
	var l [][]api.Row
	for range chance.Intn(api.MaxLists + 1) {
		l = append(l, someRows(chance, max(0, chance.Intn(most+3)-2), cols))
	}
	return l
}

// someKeys is at most four keys by chance, of columns that rows have, or not.
func someKeys(chance *rand.Rand, cols int) []api.Key {
	var keys []api.Key
	for range chance.Intn(5) {
		keys = append(keys, api.Key{Col: chance.Intn(cols+2) - 1, Down: chance.Intn(2) == 0})
	}
	return keys
}

// same tells whether a and b are the same rows, nil and empty ones being the same.
func same(a, b []api.Row) bool {
	return slices.EqualFunc(a, b, func(r, s api.Row) bool { return slices.Equal(r, s) })
}

// deep is rows in memory of their own; those that are nil stay so.
func deep(rows []api.Row) []api.Row {
	var l []api.Row
	for _, r := range rows {
		if r != nil {
			r = append(api.Row{}, r...)
		}
		l = append(l, r)
	}
	return l
}

// shown is lists as text that is short enough to be told.
func shown(x any) string {
	return fmt.Sprintf("%.400s", fmt.Sprint(x))
}

// firstOf is the list whose head comes first, in the words of P16.1: one with a head that is after no other one, of several the first.
func firstOf(heads []api.Row, keys []api.Key) (int, bool) {
	for i, r := range heads {
		after := r == nil
		for _, other := range heads {
			after = after || other != nil && order.Compare(r, other, keys) > 0
		}
		if !after {
			return i, true
		}
	}
	return 0, false
}

// merged is the rows of all lists, in the words of P16.2.
func merged(all [][]api.Row, keys []api.Key) []api.Row {
	left := slices.Clone(all)
	var l []api.Row
	for {
		var heads []api.Row
		for _, rows := range left {
			if len(rows) == 0 {
				heads = append(heads, nil)
			} else {
				heads = append(heads, append(api.Row{}, rows[0]...))
			}
		}
		i, ok := firstOf(heads, keys)
		if !ok {
			return l
		}
		l = append(l, heads[i])
		left[i] = left[i][1:]
	}
}

// mustNew is the tree of the heads.
func mustNew(t *testing.T, heads []api.Row, keys []api.Key) *Tree {
	t.Helper()
	tree, e := New(heads, keys)
	if tree == nil || e != api.OK {
		t.Fatalf("New(%s, %v) is %v, %d", shown(heads), keys, tree, e)
	}
	return tree
}

// mustComeNext tells unless the list that comes next is the wanted one; -1: none.
func mustComeNext(t *testing.T, tree *Tree, want int) {
	t.Helper()
	asked := tree.Asked()
	// It is the same list, how often ever Next is called.
	for range 2 {
		if got, ok := tree.Next(); got != max(0, want) || ok != (want >= 0) {
			t.Fatalf("Next is %d, %v, not %d", got, ok, want)
		}
	}
	if got := tree.Asked(); got != asked {
		t.Fatalf("Next made Asked %d, and it was %d", got, asked)
	}
}

// mustBeFirstOf tells unless the tree tells the list that comes first by the words of P16.1.
func mustBeFirstOf(t *testing.T, tree *Tree, heads []api.Row, keys []api.Key) {
	t.Helper()
	want, wanted := firstOf(heads, keys)
	if got, ok := tree.Next(); got != want || ok != wanted {
		t.Fatalf("Next of the heads %s by %v is %d, %v, not %d, %v", shown(heads), keys, got, ok, want, wanted)
	}
}

// mustPut tells unless Put answers as wanted.
func mustPut(t *testing.T, tree *Tree, r api.Row, want api.Errno) {
	t.Helper()
	if e := tree.Put(r); e != want {
		t.Fatalf("Put(%s) is %d, not %d", shown(r), e, want)
	}
}

// mustMerge tells unless Merge answers the wanted rows.
func mustMerge(t *testing.T, all [][]api.Row, keys []api.Key, want []api.Row) {
	t.Helper()
	if got, e := Merge(all, keys); !same(got, want) || e != api.OK {
		t.Fatalf("Merge(%s, %v) is %s, %d, not %s", shown(all), keys, shown(got), e, shown(want))
	}
}
