package order

import (
	"math"
	"math/rand"
	"testing"

	"warp/api"
)

// P15.1: how two rows stand to each other.

func TestCompareByOneKey(t *testing.T) {
	a, b := api.Row{num(1), text("b")}, api.Row{num(2), text("a")}
	mustCompare(t, a, b, some(up(0)), -1)
	mustCompare(t, a, b, some(down(0)), 1)
	mustCompare(t, a, b, some(up(1)), 1)
	mustCompare(t, a, b, some(down(1)), -1)
	mustCompare(t, a, a, some(up(0)), 0)
	mustCompare(t, a, a, some(down(1)), 0)
}

// Valid values are in the order in which the list has them; Null stands first in both directions.
func TestCompareValues(t *testing.T) {
	for i, v := range rightValues() {
		for j, w := range rightValues() {
			want := 0
			if i != j {
				want = map[bool]int{true: -1, false: 1}[i < j]
			}
			mustCompare(t, api.Row{v}, api.Row{w}, some(up(0)), want)
			if i != 0 && j != 0 {
				want = -want
			}
			mustCompare(t, api.Row{v}, api.Row{w}, some(down(0)), want)
		}
	}
}

// Of a value of the Kind Null, nothing but its Kind counts.
func TestCompareWrongNulls(t *testing.T) {
	for _, v := range append(wrongNulls(), null) {
		for _, w := range append(wrongNulls(), null) {
			mustCompare(t, api.Row{v}, api.Row{w}, some(up(0)), 0)
			mustCompare(t, api.Row{v}, api.Row{w}, some(down(0)), 0)
			mustCompare(t, api.Row{v, num(1)}, api.Row{w, num(2)}, some(down(0), up(1)), -1)
		}
		for _, w := range append(wrongValues(), rightValues()[1:]...) {
			mustCompare(t, api.Row{v}, api.Row{w}, some(up(0)), -1)
			mustCompare(t, api.Row{v}, api.Row{w}, some(down(0)), -1)
		}
		mustCompare(t, api.Row{v}, api.Row{}, some(up(0)), 0)
		mustCompare(t, api.Row{v}, nil, some(down(0)), 0)
	}
}

func TestCompareWrongValues(t *testing.T) {
	for _, v := range allValues() {
		for _, w := range allValues() {
			for _, keys := range [][]api.Key{some(up(0)), some(down(0))} {
				mustCompare(t, api.Row{v}, api.Row{w}, keys, stands(api.Row{v}, api.Row{w}, keys))
			}
		}
	}
}

// The first key that distinguishes the rows decides.
func TestCompareBySeveralKeys(t *testing.T) {
	a, b := api.Row{num(1), num(2), null}, api.Row{num(1), num(3), num(0)}
	mustCompare(t, a, b, some(up(0), up(1)), -1)
	mustCompare(t, a, b, some(up(0), down(1)), 1)
	mustCompare(t, a, b, some(down(0), down(1), up(2)), 1)
	mustCompare(t, a, b, some(down(2), down(1)), -1)
	mustCompare(t, a, b, some(up(0)), 0)
	mustCompare(t, a, b, some(up(2), down(1)), -1)
	mustCompare(t, a, b, some(down(1), up(2)), 1)
	// A column that occurs again has nothing to add.
	mustCompare(t, a, b, some(up(1), down(1)), -1)
	mustCompare(t, a, b, some(down(1), up(1)), 1)
	mustCompare(t, a, b, some(up(0), up(0), down(1)), 1)
}

func TestCompareByNoKey(t *testing.T) {
	mustCompare(t, nil, nil, nil, 0)
	mustCompare(t, ints(1)[0], ints(2)[0], nil, 0)
	mustCompare(t, ints(1)[0], nil, []api.Key{}, 0)
}

// A row that has no such column has Null in it; there is no limit to how many keys there are.
func TestCompareWithoutColumn(t *testing.T) {
	short, long := api.Row{num(1)}, api.Row{num(1), num(-5)}
	mustCompare(t, short, long, some(up(1)), -1)
	mustCompare(t, short, long, some(down(1)), -1)
	mustCompare(t, short, api.Row{num(1), null}, some(up(1)), 0)
	mustCompare(t, nil, short, some(up(0)), -1)
	mustCompare(t, nil, short, some(down(0)), -1)
	mustCompare(t, nil, api.Row{}, some(up(0)), 0)
	for _, col := range []int{-1, 2, 3, math.MinInt, math.MaxInt} {
		mustCompare(t, short, long, some(up(col)), 0)
		mustCompare(t, short, long, some(down(col)), 0)
		mustCompare(t, nil, long, some(up(col), down(1)), -1)
	}
	var keys []api.Key
	for i := range 1000 {
		keys = append(keys, api.Key{Col: 1000 - i, Down: true})
	}
	mustCompare(t, long, api.Row{num(7), num(-4)}, keys, 1)
}

// What lies beyond the length of a row or of a list of keys is not read.
func TestCompareReadsNothingBeyond(t *testing.T) {
	memory := api.Row{num(1), num(9), num(9)}
	mustCompare(t, memory[:1], api.Row{num(1), num(3)}, some(up(1)), -1)
	mustCompare(t, memory[:1], api.Row{num(1), null}, some(up(1), down(2)), 0)
	keys := some(up(0), up(1))
	mustCompare(t, memory, api.Row{num(1), num(3)}, keys[:1], 0)
	mustCompare(t, memory, api.Row{num(2), num(3)}, keys[:0], 0)
}

// All rows of at most two columns, by all lists of at most three keys.
func TestCompareSmallRows(t *testing.T) {
	values := []api.Value{null, num(1), num(2), text("a")}
	rows := shortLists(values, 2)
	for _, keys := range shortLists([]api.Key{up(0), down(0), up(1), down(1)}, 3) {
		for _, a := range rows {
			for _, b := range rows {
				mustCompare(t, a, b, keys, stands(a, b, keys))
			}
		}
	}
}

// Compare is an order of all rows, so that sorting by it ends and means one thing.
func TestCompareIsAnOrder(t *testing.T) {
	chance := rand.New(rand.NewSource(1))
	for range 20000 {
		keys := someKeys(chance, 4)
		a, b, c := someRow(chance, 4), someRow(chance, 4), someRow(chance, 4)
		mustCompare(t, a, b, keys, stands(a, b, keys))
		if Compare(a, b, keys) <= 0 && Compare(b, c, keys) <= 0 && Compare(a, c, keys) > 0 {
			t.Fatalf("%v, %v and %v are in no order by %v", a, b, c, keys)
		}
	}
}
