package order

import (
	"math/rand"
	"slices"
	"testing"

	"warp/api"
)

// P15.2: two lists as one.

func TestMerge(t *testing.T) {
	mustMerge(t, ints(1, 4), ints(2, 3, 5), some(up(0)), ints(1, 2, 3, 4, 5))
	mustMerge(t, ints(2, 3, 5), ints(1, 4), some(up(0)), ints(1, 2, 3, 4, 5))
	mustMerge(t, ints(4, 1), ints(5, 3, 2), some(down(0)), ints(5, 4, 3, 2, 1))
	mustMerge(t, []api.Row{{null}, {num(2)}}, []api.Row{{}, {num(3)}}, some(down(0)), []api.Row{{null}, {}, {num(3)}, {num(2)}})
	mustMerge(t, ints(1, 2), ints(3, 4), some(up(0)), ints(1, 2, 3, 4))
	mustMerge(t, ints(3, 4), ints(1, 2), some(up(0)), ints(1, 2, 3, 4))
}

func TestMergeOfNothing(t *testing.T) {
	for _, keys := range [][]api.Key{nil, some(up(0)), some(down(5))} {
		mustMerge(t, nil, nil, keys, nil)
		mustMerge(t, []api.Row{}, nil, keys, nil)
		mustMerge(t, ints(3, 1, 2), nil, keys, ints(3, 1, 2))
		mustMerge(t, nil, ints(3, 1, 2), keys, ints(3, 1, 2))
	}
}

// Where no key distinguishes the first rows, that of the first list comes first.
func TestMergeTakesTheFirstList(t *testing.T) {
	a, b := pairs([2]int{1, 7}, [2]int{1, 8}, [2]int{2, 9}), pairs([2]int{1, 0}, [2]int{2, 1}, [2]int{2, 2})
	mustMerge(t, a, b, some(up(0)), pairs([2]int{1, 7}, [2]int{1, 8}, [2]int{1, 0}, [2]int{2, 9}, [2]int{2, 1}, [2]int{2, 2}))
	mustMerge(t, b, a, some(up(0)), pairs([2]int{1, 0}, [2]int{1, 7}, [2]int{1, 8}, [2]int{2, 1}, [2]int{2, 2}, [2]int{2, 9}))
	mustMerge(t, a, b, nil, slices.Concat(a, b))
	mustMerge(t, b, a, some(up(9)), slices.Concat(b, a))
	mustMerge(t, []api.Row{{{N: 1}}}, []api.Row{{null}, {}}, some(up(0)), []api.Row{{{N: 1}}, {null}, {}})
	mustMerge(t, []api.Row{{}, {null}}, []api.Row{{{N: 1}}}, some(down(0)), []api.Row{{}, {null}, {{N: 1}}})
}

// Lists that are not in order are merged by the same rule.
func TestMergeOfListsInNoOrder(t *testing.T) {
	mustMerge(t, ints(5, 1), ints(3, 2), some(up(0)), ints(3, 2, 5, 1))
	mustMerge(t, ints(3, 2), ints(5, 1), some(up(0)), ints(3, 2, 5, 1))
	mustMerge(t, ints(1, 9, 0), ints(4, 2, 10), some(up(0)), ints(1, 4, 2, 9, 0, 10))
	mustMerge(t, ints(1, 2), ints(1, 2), some(down(0)), ints(1, 2, 1, 2))
}

// All pairs of lists of at most four rows of a few values, whether in order or not.
func TestMergeSmallLists(t *testing.T) {
	var all [][]api.Row
	for _, l := range shortLists([]api.Value{null, num(1), num(2)}, 4) {
		all = append(all, numbered(l))
	}
	for _, keys := range [][]api.Key{some(up(0)), some(down(0))} {
		for _, a := range all {
			for _, b := range all {
				mustMerge(t, a, b, keys, merged(a, b, keys))
			}
		}
	}
}

func TestMergeByChance(t *testing.T) {
	chance := rand.New(rand.NewSource(3))
	for range 3000 {
		a, b := someRows(chance, chance.Intn(40), 4), someRows(chance, chance.Intn(40), 4)
		keys := someKeys(chance, 4)
		mustMerge(t, a, b, keys, merged(a, b, keys))
	}
	a, b := someRows(chance, 4096, 3), someRows(chance, 5000, 3)
	mustMerge(t, a, b, some(up(0), down(2)), merged(a, b, some(up(0), down(2))))
}
