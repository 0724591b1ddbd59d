package losers

import (
	"math"
	"math/rand"
	"slices"
	"testing"

	"warp/api"
)

// P16.1: which list's head comes first.

// The chapter's example: the lists 1, 4; 2; no rows; and 1, 3.
func TestTree(t *testing.T) {
	tree := mustNew(t, []api.Row{one(1), one(2), nil, one(1)}, some(up(0)))
	for _, step := range []struct {
		list int
		next api.Row
	}{{0, one(4)}, {3, one(3)}, {1, nil}, {3, nil}, {0, nil}} {
		mustComeNext(t, tree, step.list)
		mustPut(t, tree, step.next, api.OK)
	}
	mustComeNext(t, tree, -1)
	mustPut(t, tree, one(0), api.ErrNone)
}

func TestNewOfManyHeads(t *testing.T) {
	for many := range 16 {
		heads := make([]api.Row, many+1)
		heads[many] = one(5)
		mustComeNext(t, mustNew(t, heads, some(up(0))), many)
	}
	for _, many := range []int{17, 18, 32, 1000} {
		for _, heads := range [][]api.Row{make([]api.Row, many), ints(make([]int, many)...)} {
			for _, keys := range [][]api.Key{nil, some(up(0))} {
				if tree, e := New(heads, keys); tree != nil || e != api.ErrLong {
					t.Errorf("New of %d heads is %v, %d", many, tree, e)
				}
			}
		}
	}
	// What lies beyond the length of the heads does not count.
	heads := ints(make([]int, 17)...)
	mustComeNext(t, mustNew(t, heads[:16], nil), 0)
}

// A tree of no lists, or of lists all of which are exhausted, stays so.
func TestTreeWithoutRows(t *testing.T) {
	for many := range 17 {
		tree := mustNew(t, make([]api.Row, many), some(up(0)))
		for range 2 {
			mustComeNext(t, tree, -1)
			mustPut(t, tree, one(1), api.ErrNone)
			mustPut(t, tree, api.Row{}, api.ErrNone)
			mustPut(t, tree, nil, api.ErrNone)
		}
		if tree.Asked() != 0 {
			t.Errorf("%d lists without rows made Asked %d", many, tree.Asked())
		}
	}
	mustComeNext(t, mustNew(t, nil, nil), -1)
	mustComeNext(t, mustNew(t, []api.Row{}, nil), -1)
}

// A tree that New did not make is one of no lists, too.
func TestNoTree(t *testing.T) {
	for _, tree := range []*Tree{nil, {}} {
		for range 2 {
			mustComeNext(t, tree, -1)
			mustPut(t, tree, one(1), api.ErrNone)
			mustPut(t, tree, nil, api.ErrNone)
			if tree.Asked() != 0 {
				t.Errorf("Asked is %d", tree.Asked())
			}
		}
	}
}

// Only nil means that there is no row.
func TestRowsWithoutValues(t *testing.T) {
	empty := api.Row{}
	tree := mustNew(t, []api.Row{nil, empty, one(1)}, some(down(0)))
	// The row without values counts as one with Null, which comes first in both directions.
	mustComeNext(t, tree, 1)
	mustPut(t, tree, one(2), api.OK)
	mustComeNext(t, tree, 1)
	mustPut(t, tree, empty, api.OK)
	mustComeNext(t, tree, 1)
	mustPut(t, tree, nil, api.OK)
	mustComeNext(t, tree, 2)
	mustPut(t, tree, one(3)[:0], api.OK)
	mustComeNext(t, tree, 2)
	mustPut(t, tree, nil, api.OK)
	mustComeNext(t, tree, -1)
}

// Of several lists whose heads stand alike, the one with the smallest index comes first, also where its row came later.
func TestTreeOfEqualHeads(t *testing.T) {
	for many := 1; many <= 16; many++ {
		for _, keys := range [][]api.Key{nil, some(up(0)), some(down(0)), some(up(3))} {
			tree := mustNew(t, ints(make([]int, many)...), keys)
			for i := range many {
				for range 3 {
					mustComeNext(t, tree, i)
					mustPut(t, tree, one(0), api.OK)
				}
				mustComeNext(t, tree, i)
				mustPut(t, tree, nil, api.OK)
			}
			mustComeNext(t, tree, -1)
		}
	}
	tree := mustNew(t, []api.Row{one(2), one(1), one(1)}, some(up(0)))
	mustComeNext(t, tree, 1)
	mustPut(t, tree, one(2), api.OK)
	mustComeNext(t, tree, 2)
	mustPut(t, tree, one(2), api.OK)
	mustComeNext(t, tree, 0)
}

// The head may be any row, also one that comes ahead of the row that was there.
func TestTreeOfListsInNoOrder(t *testing.T) {
	tree := mustNew(t, ints(5, 4, 6), some(up(0)))
	mustComeNext(t, tree, 1)
	mustPut(t, tree, one(3), api.OK)
	mustComeNext(t, tree, 1)
	mustPut(t, tree, one(7), api.OK)
	mustComeNext(t, tree, 0)
	mustPut(t, tree, one(8), api.OK)
	mustComeNext(t, tree, 2)
	mustPut(t, tree, one(math.MinInt), api.OK)
	mustComeNext(t, tree, 2)
	mustPut(t, tree, nil, api.OK)
	mustComeNext(t, tree, 1)
}

// All keys count, in their order and with their directions.
func TestTreeBySeveralKeys(t *testing.T) {
	heads := []api.Row{{num(1), text("a")}, {num(2), text("b")}, {num(1), text("b")}, {null, text("")}}
	for _, x := range []struct {
		keys []api.Key
		want int
	}{
		{some(up(0)), 3}, {some(down(0)), 3}, {some(up(1)), 3}, {some(down(1)), 1}, {some(down(1), up(0)), 2},
		{some(down(1), down(0)), 1}, {some(up(2), up(-1)), 0}, {some(up(9), down(1), up(0)), 2}, {nil, 0},
		{slices.Repeat(some(up(5)), 100), 0}, {append(slices.Repeat(some(up(5)), 100), down(1), up(0)), 2},
		{some(up(math.MinInt), down(math.MaxInt), down(1)), 1},
	} {
		mustComeNext(t, mustNew(t, heads, x.keys), x.want)
	}
}

// All trees of at most five lists with heads of a few values, or none; and with each other head in place of the first.
func TestSmallTrees(t *testing.T) {
	values := []api.Row{nil, {}, one(1), one(2)}
	for _, keys := range [][]api.Key{some(up(0)), some(down(0))} {
		for _, heads := range shortLists(values, 5) {
			mustBeFirstOf(t, mustNew(t, heads, keys), heads, keys)
			first, ok := firstOf(heads, keys)
			for _, r := range values {
				tree, now := mustNew(t, heads, keys), slices.Clone(heads)
				if !ok {
					mustPut(t, tree, r, api.ErrNone)
				} else {
					mustPut(t, tree, r, api.OK)
					now[first] = r
				}
				mustBeFirstOf(t, tree, now, keys)
			}
		}
	}
}

// Trees of any number of lists, through as many heads as are put, which come in no order.
func TestTreesByChance(t *testing.T) {
	chance := rand.New(rand.NewSource(1))
	for round := range 3000 {
		keys, heads := someKeys(chance, 3), someRows(chance, round%17, 3)
		for i := range heads {
			if chance.Intn(4) == 0 {
				heads[i] = nil
			}
		}
		tree := mustNew(t, heads, keys)
		for {
			mustBeFirstOf(t, tree, heads, keys)
			i, ok := tree.Next()
			if !ok {
				break
			}
			if heads[i] = nil; chance.Intn(5) > 0 {
				heads[i] = someRow(chance, 3)
			}
			mustPut(t, tree, heads[i], api.OK)
		}
		mustPut(t, tree, one(1), api.ErrNone)
		mustBeFirstOf(t, tree, heads, keys)
	}
}
