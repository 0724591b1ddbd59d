package losers

import (
	"math/rand"
	"testing"

	"warp/api"
)

// P16.2: lists as one.

func TestMerge(t *testing.T) {
	example := [][]api.Row{ints(1, 4), ints(2), nil, ints(1, 3)}
	mustMerge(t, example, some(up(0)), ints(1, 1, 2, 3, 4))
	mustMerge(t, example, nil, ints(1, 4, 2, 1, 3))
	mustMerge(t, nil, some(up(0)), nil)
	mustMerge(t, [][]api.Row{}, nil, nil)
	mustMerge(t, [][]api.Row{nil, {}, nil}, some(up(0)), nil)
	mustMerge(t, [][]api.Row{nil, ints(1, 2)}, some(up(0)), ints(1, 2))
	mustMerge(t, [][]api.Row{ints(5)}, some(down(0)), ints(5))
	mustMerge(t, [][]api.Row{ints(9, 5, 5), ints(8, 5), ints(10)}, some(down(0)), ints(10, 9, 8, 5, 5, 5))
}

// Rows that no key distinguishes come list by list.
func TestMergeOfEqualRows(t *testing.T) {
	row := func(n, i int) api.Row { return api.Row{num(n), num(i)} }
	mustMerge(t, [][]api.Row{{row(2, 0), row(2, 1)}, {row(1, 2), row(2, 3)}, {row(2, 4), row(3, 5)}}, some(up(0)),
		[]api.Row{row(1, 2), row(2, 0), row(2, 1), row(2, 3), row(2, 4), row(3, 5)})
	var all [][]api.Row
	var want []api.Row
	for i := range 16 {
		all = append(all, []api.Row{row(7, 2*i), row(7, 2*i+1)})
		want = append(want, all[i]...)
	}
	mustMerge(t, all, some(up(0)), want)
	mustMerge(t, all, some(down(0)), want)
	mustMerge(t, all, nil, want)
}

// A row that is nil counts as one without values, and no row behind it is lost.
func TestMergeOfRowsWithoutValues(t *testing.T) {
	mustMerge(t, [][]api.Row{{nil, one(1)}, {nil}}, some(up(0)), []api.Row{nil, nil, one(1)})
	mustMerge(t, [][]api.Row{{one(2), nil, one(1)}, {one(3), {}, nil}}, some(up(0)), []api.Row{one(2), nil, one(1), one(3), nil, nil})
	mustMerge(t, [][]api.Row{{one(1), nil}, {nil, one(0)}, nil}, some(down(0)), []api.Row{nil, one(1), nil, one(0)})
	mustMerge(t, [][]api.Row{make([]api.Row, 3), make([]api.Row, 2)}, nil, make([]api.Row, 5))
}

// Lists that are not in order are merged by the same rule.
func TestMergeOfListsInNoOrder(t *testing.T) {
	mustMerge(t, [][]api.Row{ints(5, 1), ints(3, 2)}, some(up(0)), ints(3, 2, 5, 1))
	mustMerge(t, [][]api.Row{ints(3, 9, 0), ints(4, 1), ints(4, 5)}, some(up(0)), ints(3, 4, 1, 4, 5, 9, 0))
	mustMerge(t, [][]api.Row{ints(1, 2), ints(1, 2)}, some(down(0)), ints(1, 2, 1, 2))
}

func TestMergeOfManyLists(t *testing.T) {
	for many := range 17 {
		all := make([][]api.Row, many)
		var want []api.Row
		for i := range all {
			all[many-1-i] = ints(i, 100+i)
			want = append(want, one(i))
		}
		for i := range all {
			want = append(want, one(100+i))
		}
		mustMerge(t, all, some(up(0)), want)
	}
	for _, many := range []int{17, 18, 32, 1000} {
		for _, rows := range [][]api.Row{nil, ints(1)} {
			all := make([][]api.Row, many)
			all[0] = rows
			if l, e := Merge(all, some(up(0))); len(l) != 0 || e != api.ErrLong {
				t.Errorf("Merge of %d lists is %v, %d", many, l, e)
			}
			// What lies beyond the length of the lists does not count.
			mustMerge(t, all[:16], some(up(0)), rows)
		}
	}
}

// All pairs of lists of at most three rows of a few values, and all three lists of at most two, whether in order or not.
func TestMergeSmallLists(t *testing.T) {
	small := shortLists([]api.Row{nil, one(1), one(2)}, 3)
	for _, keys := range [][]api.Key{some(up(0)), some(down(0))} {
		for _, all := range lists(small, 2) {
			mustMerge(t, all, keys, merged(all, keys))
		}
		for _, all := range lists(small[:13], 3) {
			mustMerge(t, all, keys, merged(all, keys))
		}
	}
}

func TestMergeByChance(t *testing.T) {
	chance := rand.New(rand.NewSource(2))
	for range 2000 {
		all, keys := someLists(chance, 12, 3), someKeys(chance, 3)
		mustMerge(t, all, keys, merged(all, keys))
	}
}
