package delta

import (
	"math"
	"math/rand"
	"slices"
	"testing"

	"warp/api"
)

// P11.1: Step and Rises.

func TestStep(t *testing.T) {
	for _, c := range []struct{ a, b, want int }{
		{0, 0, 0},
		{0, 1, 1},
		{1, 0, -1},
		{5, 7, 2},
		{7, 6, -1},
		{-3, 4, 7},
		{4, -3, -7},
		{-3, -4, -1},
		{0, math.MaxInt, math.MaxInt},
		{0, math.MinInt, math.MinInt},
		{math.MaxInt, 0, -math.MaxInt},
		{1, math.MaxInt, math.MaxInt - 1},
		{-1, math.MaxInt - 1, math.MaxInt},
		{math.MinInt + 1, 0, math.MaxInt},
		{math.MinInt, -1, math.MaxInt},
		{math.MaxInt, -1, math.MinInt},
		{1, math.MinInt + 1, math.MinInt},
		{-1, math.MinInt, math.MinInt + 1},
		{math.MaxInt, math.MaxInt, 0},
		{math.MinInt, math.MinInt, 0},
		{-1 << 62, 1<<62 - 1, math.MaxInt},
		{1 << 62, -1 << 62, math.MinInt},
	} {
		if d, e := Step(c.a, c.b); d != c.want || e != api.OK {
			t.Errorf("Step(%d, %d) is %d and error %d, not %d", c.a, c.b, d, e, c.want)
		}
	}
}

func TestStepOfTooFar(t *testing.T) {
	for _, c := range []struct{ a, b int }{
		{math.MinInt, 1},
		{math.MinInt, 0},
		{math.MinInt + 1, 1},
		{-1, math.MaxInt},
		{-2, math.MaxInt - 1},
		{math.MaxInt, -2},
		{math.MaxInt - 1, -3},
		{1, math.MinInt},
		{2, math.MinInt + 1},
		{math.MinInt, math.MaxInt},
		{math.MaxInt, math.MinInt},
		{-1 << 62, 1 << 62},
		{1 << 62, -1<<62 - 1},
	} {
		if d, e := Step(c.a, c.b); d != 0 || e != api.ErrRange {
			t.Errorf("Step(%d, %d) is %d and error %d, not error %d", c.a, c.b, d, e, api.ErrRange)
		}
	}
}

func TestStepOfAny(t *testing.T) {
	for _, a := range edges() {
		for _, b := range edges() {
			mustStep(t, a, b)
		}
		for d := -3; d <= 3; d++ {
			mustStep(t, a, a+d) // beyond the ends, these wrap round to the other end
			mustStep(t, a, a+math.MaxInt+d)
		}
	}
	chance := rand.New(rand.NewSource(1))
	for range 100000 {
		mustStep(t, int(chance.Uint64())>>chance.Intn(64), int(chance.Uint64())>>chance.Intn(64))
	}
}

func TestRises(t *testing.T) {
	for _, c := range []struct {
		l    []int
		want bool
	}{
		{nil, true},
		{[]int{}, true},
		{[]int{0}, true},
		{[]int{-5}, true}, // before the first integer there is none, not 0
		{[]int{math.MinInt}, true},
		{[]int{3, 3, 3}, true},
		{[]int{-1, 0, 0, 1}, true},
		{[]int{5, 7, 6}, false},
		{[]int{1, 0}, false},
		{[]int{0, -1}, false},
		{[]int{2, 1, 3}, false},
		{[]int{1, 3, 2}, false},
		{[]int{1, 2, 1, 2}, false},
		{[]int{math.MinInt, math.MaxInt}, true}, // a step that no int can hold
		{[]int{math.MinInt, 0, math.MaxInt}, true},
		{[]int{math.MaxInt, math.MinInt}, false},
		{[]int{math.MinInt, 1}, true},
		{[]int{1, math.MinInt}, false},
		{[]int{-1, math.MaxInt}, true},
		{[]int{math.MaxInt, -2}, false},
		{edges(), true},
	} {
		if Rises(c.l) != c.want {
			t.Errorf("Rises(%d) is %t", c.l, !c.want)
		}
	}
}

// falls tells whether some integer of l is less than the one before it.
func falls(l []int) bool {
	for i := range l {
		if i > 0 && l[i] < l[i-1] {
			return true
		}
	}
	return false
}

func TestRisesOfAny(t *testing.T) {
	for _, l := range smallLists() {
		if Rises(l) == falls(l) {
			t.Fatalf("Rises(%d) is %t", l, falls(l))
		}
	}
	chance := rand.New(rand.NewSource(2))
	for range 2000 {
		l := someInts(chance, 2+chance.Intn(30))
		slices.Sort(l)
		if !Rises(l) {
			t.Fatalf("Rises(%d) is false", l)
		}
		l[chance.Intn(len(l))] += chance.Intn(3) - 1
		if Rises(l) == falls(l) {
			t.Fatalf("Rises(%d) is %t", l, falls(l))
		}
	}
}

// Rises knows no limit of how many integers there are, and finds what falls anywhere among them.
func TestRisesOfMany(t *testing.T) {
	for _, many := range []int{4095, 4096, 4097, 10000} {
		l := make([]int, many)
		for i := range l {
			l[i] = i / 2
		}
		if !Rises(l) {
			t.Errorf("Rises of %d integers is false", many)
		}
		for _, at := range []int{1, 2, many / 2, many - 2, many - 1} {
			was := l[at]
			l[at] = l[at-1] - 1
			if Rises(l) {
				t.Errorf("Rises of %d integers, of which the one at %d falls, is true", many, at)
			}
			l[at] = was
		}
	}
}

// Rises reads nothing beyond the length, and changes nothing.
func TestRisesLeavesTheArgument(t *testing.T) {
	l := []int{1, 2, 2, 0, 5}
	if !Rises(l[:3]) || Rises(l[:4]) || Rises(l) {
		t.Errorf("Rises of parts of %d is wrong", l)
	}
	if !slices.Equal(l, []int{1, 2, 2, 0, 5}) {
		t.Errorf("Rises changed its argument to %d", l)
	}
}
