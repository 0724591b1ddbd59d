package order

import (
	"math"
	"testing"

	"warp/api"
)

// P15.1: which keys may be.

// upTo is keys of the columns from one on, so many.
func upTo(from, many int) []api.Key {
	var keys []api.Key
	for i := range many {
		keys = append(keys, api.Key{Col: from + i, Down: i%3 == 1})
	}
	return keys
}

func TestRight(t *testing.T) {
	mustRight(t, 0, nil, api.OK)
	mustRight(t, 0, []api.Key{}, api.OK)
	mustRight(t, 1, nil, api.OK)
	mustRight(t, math.MaxInt, nil, api.OK)
	mustRight(t, 1, some(up(0)), api.OK)
	mustRight(t, 1, some(down(0)), api.OK)
	mustRight(t, 3, some(up(2), down(0), up(1)), api.OK)
	mustRight(t, 8, upTo(0, 8), api.OK)
	// There may be more columns than a table has.
	mustRight(t, 100, upTo(92, 8), api.OK)
	mustRight(t, math.MaxInt, some(up(math.MaxInt-1)), api.OK)
}

func TestRightOfNegativeColumns(t *testing.T) {
	for _, cols := range []int{-1, -2, math.MinInt} {
		mustRight(t, cols, nil, api.ErrArg)
		mustRight(t, cols, some(up(0)), api.ErrArg)
		mustRight(t, cols, some(up(-2)), api.ErrArg)
		// The number of columns is looked at ahead of the number of keys.
		mustRight(t, cols, upTo(0, 9), api.ErrArg)
	}
}

// Nine keys are too many, whatever else is wrong with them.
func TestRightOfManyKeys(t *testing.T) {
	mustRight(t, 9, upTo(0, 9), api.ErrLong)
	mustRight(t, 1000, upTo(0, 1000), api.ErrLong)
	mustRight(t, 8, upTo(0, 9), api.ErrLong)
	mustRight(t, 0, upTo(0, 9), api.ErrLong)
	mustRight(t, 9, make([]api.Key, 9), api.ErrLong)
	mustRight(t, 9, upTo(-1, 9), api.ErrLong)
	mustRight(t, 9, make([]api.Key, 8), api.ErrArg)
}

func TestRightOfWrongColumns(t *testing.T) {
	for _, col := range []int{-1, 3, 4, math.MinInt, math.MaxInt} {
		mustRight(t, 3, some(up(col)), api.ErrArg)
		mustRight(t, 3, some(down(col)), api.ErrArg)
		mustRight(t, 3, some(up(0), down(2), up(col)), api.ErrArg)
		mustRight(t, 3, some(up(col), up(0)), api.ErrArg)
	}
	mustRight(t, 0, some(up(0)), api.ErrArg)
	mustRight(t, math.MaxInt, some(up(math.MaxInt)), api.ErrArg)
	mustRight(t, 7, upTo(0, 8), api.ErrArg)
}

// A column occurs twice, too, where its directions differ, or others stand between.
func TestRightOfTheSameColumn(t *testing.T) {
	mustRight(t, 3, some(up(1), up(1)), api.ErrArg)
	mustRight(t, 3, some(up(1), down(1)), api.ErrArg)
	mustRight(t, 3, some(down(0), up(0)), api.ErrArg)
	mustRight(t, 3, some(up(0), up(1), up(2), down(0)), api.ErrArg)
	mustRight(t, 9, append(upTo(0, 7), up(3)), api.ErrArg)
}

func TestRightOfSmallLists(t *testing.T) {
	keys := []api.Key{up(-1), up(0), down(0), up(1), down(1), up(2), down(3)}
	for cols := range 5 {
		for _, l := range shortLists(keys, 4) {
			want := api.OK
			for i, k := range l {
				if k.Col < 0 || k.Col >= cols {
					want = api.ErrArg
				}
				for _, earlier := range l[:i] {
					if earlier.Col == k.Col {
						want = api.ErrArg
					}
				}
			}
			mustRight(t, cols, l, want)
		}
	}
}
