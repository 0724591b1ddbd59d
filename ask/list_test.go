package ask

import (
	"math"
	"math/rand"
	"slices"
	"testing"

	"warp/api"
)

// P14.4: the columns of a condition, and two conditions as one.

// mustCols tells unless the columns of l are want.
func mustCols(t *testing.T, l []api.Node, want ...int) {
	t.Helper()
	if got := Cols(l); !slices.Equal(got, want) {
		t.Fatalf("Cols(%s) is %d, not %d", shown(l), got, want)
	}
}

func TestCols(t *testing.T) {
	mustCols(t, nil)
	mustCols(t, []api.Node{})
	mustCols(t, always())
	mustCols(t, not(always()))
	mustCols(t, equal(3, num(1)), 3)
	mustCols(t, less(4, num(1)), 4)
	mustCols(t, likes(5, "a"), 5)
	mustCols(t, isNull(0), 0)
	mustCols(t, both(less(0, num(5)), isNull(1)), 0, 1)
	mustCols(t, either(isNull(7), both(equal(2, num(1)), not(less(7, num(2))), likes(0, "%"), always()), isNull(2)), 0, 2, 7)
	mustCols(t, both(isNull(1), isNull(1), isNull(1)), 1)
}

// Of lists that are no conditions, the columns are told as well; of other nodes, Col tells none.
func TestColsOfAnyList(t *testing.T) {
	mustCols(t, slices.Concat(isNull(9), isNull(-1), isNull(math.MinInt), isNull(9), isNull(math.MaxInt), isNull(4)), math.MinInt, -1, 4, 9, math.MaxInt)
	var l []api.Node
	for op := range 256 {
		l = append(l, api.Node{Op: uint8(op), Col: op, Kids: -op, V: num(op)})
	}
	mustCols(t, l, 5, 6, 7, 8)
	l = nil
	var want []int
	for i := range 1000 {
		l = append(l, api.Node{Op: api.Equal + uint8(i%4), Col: 999 - i})
		want = append(want, i)
	}
	mustCols(t, slices.Concat(l, l), want...)
	chance := rand.New(rand.NewSource(5))
	for range 1000 {
		var l []api.Node
		known := map[int]bool{}
		for range chance.Intn(60) {
			n := api.Node{Op: uint8(chance.Intn(11)), Col: chance.Intn(40) - 10}
			l = append(l, n)
			if n.Op >= 5 && n.Op <= 8 {
				known[n.Col] = true
			}
		}
		var want []int
		for col := -10; col < 30; col++ {
			if known[col] {
				want = append(want, col)
			}
		}
		mustCols(t, l, want...)
	}
}

// mustAll tells unless a and b as one condition are want.
func mustAll(t *testing.T, a, b, want []api.Node) {
	t.Helper()
	if got := All(a, b); !slices.Equal(got, want) {
		t.Fatalf("All(%s, %s) is %s, not %s", shown(a), shown(b), shown(got), shown(want))
	}
}

func TestAll(t *testing.T) {
	a, b := less(0, num(5)), either(isNull(1), isNull(2))
	mustAll(t, a, b, both(a, b))
	mustAll(t, b, a, both(b, a))
	mustAll(t, a, a, both(a, a))
	mustAll(t, a, always(), a)
	mustAll(t, always(), a, a)
	mustAll(t, b, always(), b)
	mustAll(t, always(), b, b)
	mustAll(t, always(), always(), always())
	mustAll(t, both(a, b), b, both(both(a, b), b))
}

// A single True counts as one, whatever its other fields are; two of them are the first one.
func TestAllOfTrue(t *testing.T) {
	odd := []api.Node{{Op: api.True, Col: 7, Kids: -3, V: text("a")}}
	a := isNull(1)
	mustAll(t, a, odd, a)
	mustAll(t, odd, a, a)
	mustAll(t, odd, always(), odd)
	mustAll(t, always(), odd, always())
	mustAll(t, odd, odd, odd)
	for _, op := range append(ops, 0, 9, 255) {
		if n := []api.Node{{Op: op}}; op != api.True {
			mustAll(t, n, a, both(n, a))
			mustAll(t, a, n, both(a, n))
		}
	}
	// True is not left out where it is not all there is.
	mustAll(t, both(always()), a, both(both(always()), a))
	mustAll(t, a, both(always()), both(a, both(always())))
	mustAll(t, not(always()), a, both(not(always()), a))
	two := slices.Concat(always(), always())
	mustAll(t, two, a, both(two, a))
	mustAll(t, a, two, both(a, two))
}

// Lists that are no conditions are put side by side as well.
func TestAllOfAnyList(t *testing.T) {
	a := isNull(1)
	mustAll(t, nil, nil, []api.Node{{Op: api.And, Kids: 2}})
	mustAll(t, nil, a, []api.Node{{Op: api.And, Kids: 2}, a[0]})
	mustAll(t, a, nil, []api.Node{{Op: api.And, Kids: 2}, a[0]})
	mustAll(t, nil, always(), nil)
	mustAll(t, always(), nil, nil)
	long := nots(100, a)
	mustAll(t, long, long, both(long, long))
}
