package losers

import (
	"math/rand"
	"testing"

	"warp/api"
)

// P16.3: how many comparisons are made.

// levels is the least k of which 2^k is not less than many.
func levels(many int) int {
	k, power := 0, 1
	for power < many {
		k, power = k+1, 2*power
	}
	return k
}

func TestLevels(t *testing.T) {
	for many, want := range []int{0, 0, 1, 2, 2, 3, 3, 3, 3, 4, 4, 4, 4, 4, 4, 4, 4} {
		if got := levels(many); got != want {
			t.Errorf("levels(%d) is %d", many, got)
		}
	}
}

// New has to compare every head but the first one of all with another one, and compares none of them twice.
func TestAskedByNew(t *testing.T) {
	for many := range 17 {
		for _, keys := range [][]api.Key{nil, some(up(0)), some(up(0), down(1))} {
			want := max(0, many-1)
			if got := mustNew(t, ints(make([]int, many)...), keys).Asked(); got != want {
				t.Errorf("New of %d heads made %d comparisons, not %d", many, got, want)
			}
		}
	}
}

// Lists that have no head are compared with none.
func TestAskedOfExhaustedLists(t *testing.T) {
	for _, heads := range shortLists([]api.Row{nil, one(1), one(2)}, 6) {
		many := 0
		for _, r := range heads {
			if r != nil {
				many++
			}
		}
		tree := mustNew(t, heads, some(up(0)))
		if got := tree.Asked(); got != max(0, many-1) {
			t.Fatalf("New(%v) made %d comparisons", heads, got)
		}
		for i, ok := tree.Next(); ok; i, ok = tree.Next() {
			asked := tree.Asked()
			mustPut(t, tree, nil, api.OK)
			// Only the heads of the others are left, of which one comes first now.
			if many--; tree.Asked()-asked > max(0, many-1) {
				t.Fatalf("list %d of %v ended, and %d comparisons were made for %d heads", i, heads, tree.Asked()-asked, many)
			}
		}
	}
}

// Whatever the heads are, a Put makes no more comparisons than there are levels, and a Put that is refused makes none.
func TestAskedByPut(t *testing.T) {
	chance := rand.New(rand.NewSource(3))
	for many := range 17 {
		most := 0
		for range 300 {
			keys := someKeys(chance, 2)
			tree := mustNew(t, someRows(chance, many, 2), keys)
			for put := range 60 {
				asked := tree.Asked()
				_, ok := tree.Next()
				r := someRow(chance, 2)
				if put >= 20 {
					r = nil
				}
				e := tree.Put(r)
				made := tree.Asked() - asked
				most = max(most, made)
				if made < 0 || made > levels(many) || !ok && made > 0 || ok != (e == api.OK) {
					t.Fatalf("Put to %d lists made %d comparisons, and answered %d", many, made, e)
				}
			}
		}
		// There are lists that come through all levels.
		if most != levels(many) {
			t.Errorf("no Put to %d lists made %d comparisons, but at most %d", many, levels(many), most)
		}
	}
}

// A list's rows that come one after the other are held against the others just once each.
func TestAskedInAll(t *testing.T) {
	for many := 1; many <= 16; many++ {
		tree := mustNew(t, ints(make([]int, many)...), some(up(0)))
		for n := range 100 * many {
			mustComeNext(t, tree, n%many)
			mustPut(t, tree, one(n/many+1), api.OK)
		}
		if got, most := tree.Asked(), many-1+100*many*levels(many); got > most {
			t.Errorf("%d comparisons were made of %d lists, not at most %d", got, many, most)
		}
	}
}
