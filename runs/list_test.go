package runs

import (
	"math"
	"math/rand"
	"slices"
	"testing"

	"warp/api"
)

// P9.1: Of, Right, Flat and At.

func TestOf(t *testing.T) {
	for _, c := range []struct {
		l    []int
		want []api.Run
	}{
		{nil, nil},
		{[]int{}, nil},
		{[]int{5, 5, 7}, runs(5, 2, 7, 1)},
		{[]int{0}, runs(0, 1)},
		{[]int{0, 0}, runs(0, 2)},
		{[]int{0, 0, 1}, runs(0, 2, 1, 1)},
		{[]int{1, 0, 0}, runs(1, 1, 0, 2)},
		{[]int{7, 5, 5, 7, 7, 7}, runs(7, 1, 5, 2, 7, 3)},
		{[]int{1, 2, 1, 2}, runs(1, 1, 2, 1, 1, 1, 2, 1)},
		{[]int{1, -1, -1, 1}, runs(1, 1, -1, 2, 1, 1)},
		{[]int{math.MinInt, math.MinInt, math.MaxInt}, runs(math.MinInt, 2, math.MaxInt, 1)},
		{[]int{0, 1 << 32, 1 << 32, 0}, runs(0, 1, 1<<32, 2, 0, 1)},
	} {
		if got := Of(c.l); !slices.Equal(got, c.want) {
			t.Errorf("Of(%d) is %v, not %v", c.l, got, c.want)
		}
	}
}

// Of knows no greatest length: its list need not be one that Flat takes.
func TestOfLongLists(t *testing.T) {
	for _, many := range []int{4095, 4096, 4097, 100000} {
		if got := Of(slices.Repeat([]int{-9}, many)); !slices.Equal(got, runs(-9, many)) {
			t.Errorf("Of %d integers that are the same is %.100v", many, got)
		}
		l := make([]int, many)
		for i := range l {
			l[i] = i % 3
		}
		got := Of(l)
		if len(got) != many || got[many-1] != (api.Run{N: (many - 1) % 3, Many: 1}) {
			t.Errorf("Of %d integers that all differ from the next one has %d runs", many, len(got))
		}
	}
}

func TestOfAny(t *testing.T) {
	chance := rand.New(rand.NewSource(1))
	for range 2000 {
		l := someInts(chance, chance.Intn(200))
		if got := Of(l); !slices.Equal(got, shortest(l)) {
			t.Fatalf("Of(%d) is %v", l, got)
		}
	}
}

func TestRight(t *testing.T) {
	for _, l := range valid() {
		if !Right(l) {
			t.Errorf("Right(%.100v) is false", l)
		}
	}
	for _, l := range slices.Concat(again(), empty(), long()) {
		if Right(l) {
			t.Errorf("Right(%.100v) is true", l)
		}
	}
}

// Only neighbours may not have the same N, and only the first has none before it.
func TestRightOfFarAndFirst(t *testing.T) {
	if !Right(runs(1, 1, 2, 1, 1, 1)) {
		t.Error("two runs of 1 that are not adjacent are refused")
	}
	for _, n := range edges() {
		if !Right(runs(n, 1)) {
			t.Errorf("a run of %d alone is refused", n)
		}
		for _, m := range edges() {
			if Right(runs(n, 1, m, 1)) != (n != m) {
				t.Errorf("runs of %d and %d: Right is %t", n, m, n == m)
			}
		}
	}
}

func TestFlat(t *testing.T) {
	mustFlat(t, nil, nil, api.OK)
	mustFlat(t, []api.Run{}, nil, api.OK)
	mustFlat(t, runs(5, 2, 7, 1), []int{5, 5, 7}, api.OK)
	mustFlat(t, runs(5, 2, 5, 1), []int{5, 5, 5}, api.OK)
	mustFlat(t, runs(7, 1, 5, 2, 7, 3), []int{7, 5, 5, 7, 7, 7}, api.OK)
	mustFlat(t, runs(math.MinInt, 1, math.MaxInt, 2), []int{math.MinInt, math.MaxInt, math.MaxInt}, api.OK)
	mustFlat(t, runs(-4, api.MaxRows), slices.Repeat([]int{-4}, api.MaxRows), api.OK)
	for _, l := range slices.Concat(valid(), again()) {
		want, e := flat(l)
		if e != api.OK {
			t.Fatalf("the test is wrong: %.100v stands for no integers", l)
		}
		mustFlat(t, l, want, api.OK)
	}
}

// A run that has no integer is told before a sum that is too great, wherever it stands.
func TestFlatOfWrongLists(t *testing.T) {
	for _, l := range empty() {
		mustFlat(t, l, nil, api.ErrArg)
	}
	for _, l := range long() {
		mustFlat(t, l, nil, api.ErrLong)
	}
	for _, l := range slices.Concat(valid(), again(), long()) {
		for _, many := range []int{0, -1, -api.MaxRows, math.MinInt} {
			for _, at := range []int{0, len(l) / 2, len(l)} {
				mustFlat(t, slices.Insert(slices.Clone(l), at, api.Run{N: 3, Many: many}), nil, api.ErrArg)
			}
		}
	}
}

// everyList calls f with all lists of at most three runs of those integers, each of them so often as told.
func everyList(numbers, often []int, f func(l []api.Run)) {
	var next func(l []api.Run)
	next = func(l []api.Run) {
		f(slices.Clone(l))
		if len(l) == 3 {
			return
		}
		for _, n := range numbers {
			for _, many := range often {
				next(append(slices.Clone(l), api.Run{N: n, Many: many}))
			}
		}
	}
	next(nil)
}

// All short lists, with sums around what may be and around what an int can hold.
func TestAllShortLists(t *testing.T) {
	often := []int{math.MinInt, -1, 0, 1, 2, 4093, 4095, 4096, 4097, 1 << 62, math.MaxInt - 1, math.MaxInt}
	rightOnes, errors := 0, [4]int{}
	everyList([]int{-1, 4}, often, func(l []api.Run) {
		want, e := flat(l)
		mustFlat(t, l, want, e)
		errors[e]++
		ok := right(l)
		if Right(l) != ok {
			t.Fatalf("Right(%v) is %t", l, !ok)
		}
		if ok {
			rightOnes++
		}
	})
	if rightOnes == 0 || errors[api.OK] <= rightOnes || errors[api.ErrArg] == 0 || errors[api.ErrLong] == 0 {
		t.Errorf("the lists are not of all sorts: %d are valid, and %d have each error", rightOnes, errors)
	}
}

func TestAt(t *testing.T) {
	l := runs(5, 2, 7, 1)
	mustNotAt(t, l, -1)
	mustAt(t, l, 0, 5, 0)
	mustAt(t, l, 1, 5, 0)
	mustAt(t, l, 2, 7, 1)
	mustNotAt(t, l, 3)
	same := runs(5, 2, 5, 1, 5, 2)
	for place, run := range []int{0, 0, 1, 2, 2} {
		mustAt(t, same, place, 5, run)
	}
	mustNotAt(t, same, 5)
	mustNotAt(t, nil, 0)
	mustNotAt(t, []api.Run{}, 0)
}

// odd is integers that are the index of nothing.
func odd() []int {
	return []int{-1, -2, -api.MaxRows, api.MaxRows, api.MaxRows + 1, 1 << 31, 1 << 32, 1<<32 + 1, -1 << 32, 1 - 1<<32, 1 << 62, math.MaxInt - 1, math.MaxInt, math.MinInt, math.MinInt + 1}
}

// At each index of each list, and around them.
func TestAtEachPlace(t *testing.T) {
	for _, l := range slices.Concat(valid(), again()) {
		place := 0
		for run, x := range l {
			for i := range x.Many {
				if i < 3 || i >= x.Many-3 {
					mustAt(t, l, place+i, x.N, run)
				}
			}
			place += x.Many
		}
		for i := range 3 {
			mustNotAt(t, l, place+i)
		}
		for _, place := range odd() {
			mustNotAt(t, l, place)
		}
	}
}

// Of a list that stands for no integers there is none, also where the runs before the wrong one would have one.
func TestAtOfWrongLists(t *testing.T) {
	for _, l := range slices.Concat(empty(), long()) {
		for _, place := range []int{0, 1, 2, 3, 5, 100, 4094, 4095} {
			mustNotAt(t, l, place)
		}
		for _, place := range odd() {
			mustNotAt(t, l, place)
		}
	}
}

// Arguments are neither changed nor kept, nor read beyond their length; answers are memory of their own.
func TestListsOwnTheirResults(t *testing.T) {
	numbers := []int{5, 5, 7, 7}
	ofNumbers := Of(numbers[:3])
	again := Of(numbers[:3])
	clear(again[:cap(again)])
	if !slices.Equal(numbers, []int{5, 5, 7, 7}) {
		t.Errorf("Of changed its argument's memory: %d", numbers)
	}
	clear(numbers)
	if !slices.Equal(ofNumbers, runs(5, 2, 7, 1)) {
		t.Errorf("what Of answered is %v", ofNumbers)
	}
	memory := runs(5, 2, 7, 1, 9, 0)
	was := slices.Clone(memory)
	list, e := Flat(memory[:2])
	other, _ := Flat(memory[:2])
	clear(other[:cap(other)])
	if !Right(memory[:2]) || e != api.OK {
		t.Error("what lies beyond the length is read")
	}
	mustAt(t, memory[:2], 2, 7, 1)
	if !slices.Equal(memory, was) {
		t.Errorf("a call changed its argument's memory: %v", memory)
	}
	clear(memory)
	if !slices.Equal(list, []int{5, 5, 7}) {
		t.Errorf("what Flat answered is %d", list)
	}
}
