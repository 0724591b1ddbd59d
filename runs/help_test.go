package runs

import (
	"bytes"
	"math"
	"math/big"
	"math/rand"
	"slices"
	"testing"

	"warp/api"
	"warp/octets"
)

// What the tests of this package share.

// runs is runs from pairs: an integer, and how often it stands.
func runs(pairs ...int) []api.Run {
	var l []api.Run
	for i := 0; i+1 < len(pairs); i += 2 {
		l = append(l, api.Run{N: pairs[i], Many: pairs[i+1]})
	}
	return l
}

// flat is what Flat must answer for l; it reckons with a sum of any size.
func flat(l []api.Run) ([]int, api.Errno) {
	sum := new(big.Int)
	for _, x := range l {
		if x.Many < 1 {
			return nil, api.ErrArg
		}
		sum.Add(sum, big.NewInt(int64(x.Many)))
	}
	if sum.Cmp(big.NewInt(api.MaxRows)) > 0 {
		return nil, api.ErrLong
	}
	var all []int
	for _, x := range l {
		all = append(all, slices.Repeat([]int{x.N}, x.Many)...)
	}
	return all, api.OK
}

// right is what Right must answer for l.
func right(l []api.Run) bool {
	all, e := flat(l)
	return e == api.OK && slices.Equal(shortest(all), l)
}

// shortest is the shortest list of runs of l: a run ends behind each integer that another one follows.
func shortest(l []int) []api.Run {
	var list []api.Run
	from := 0
	for i := range l {
		if i == len(l)-1 || l[i+1] != l[i] {
			list = append(list, api.Run{N: l[i], Many: i + 1 - from})
			from = i + 1
		}
	}
	return list
}

// encoded is bytes in the form of those that Put answers, for any runs, of which there are so many as told.
func encoded(many uint64, list ...api.Run) []byte {
	b := octets.Num(nil, many)
	for _, x := range list {
		b = append(b, octets.Num(octets.Int(nil, x.N), uint64(x.Many))...)
	}
	return b
}

// put is what Put must answer for l, which is not longer than may be.
func put(l []int) []byte {
	list := shortest(l)
	return encoded(uint64(len(list)), list...)
}

// taken is what Take must answer for b, and whether there is such a list.
func taken(b []byte) ([]int, bool) {
	r := octets.New(b)
	var all []int
	last := 0
	many := r.Num()
	for i := uint64(0); i < many; i++ {
		n, often := r.Int(), r.Num()
		if r.Bad() || often < 1 || often > api.MaxRows || i > 0 && n == last {
			return nil, false
		}
		all = append(all, slices.Repeat([]int{n}, int(often))...)
		if len(all) > api.MaxRows {
			return nil, false
		}
		last = n
	}
	return all, r.End() == api.OK
}

// someInts is so many integers by chance, with longer runs or shorter ones.
func someInts(chance *rand.Rand, many int) []int {
	sorts, longest := 1+chance.Intn(6), 1+chance.Intn(1<<chance.Intn(10))
	l := make([]int, 0, many)
	for len(l) < many {
		n := int(chance.Uint64()) >> (8 * chance.Intn(8))
		if chance.Intn(2) == 0 {
			n = chance.Intn(sorts)
		}
		l = append(l, slices.Repeat([]int{n}, min(1+chance.Intn(longest), many-len(l)))...)
	}
	return l
}

// edges is integers at the ends of what an int can hold, and around 0.
func edges() []int {
	return []int{math.MinInt, math.MinInt + 1, -1 << 32, -125, -124, -2, -1, 0, 1, 2, 123, 124, 255, 1 << 31, 1 << 32, math.MaxInt - 1, math.MaxInt}
}

// valid is lists of runs that are valid, among them those at the edges.
func valid() [][]api.Run {
	every := make([]api.Run, api.MaxRows)
	for i := range every {
		every[i] = api.Run{N: i % 2, Many: 1}
	}
	return [][]api.Run{
		nil,
		{},
		runs(0, 1),
		runs(5, 2, 7, 1),
		runs(5, 2, 7, 1, 5, 3),
		runs(-1, 1, 0, 1, 1, 1),
		runs(math.MinInt, 3, math.MaxInt, 2),
		runs(0, api.MaxRows),
		runs(0, api.MaxRows-1),
		runs(0, api.MaxRows-1, 1, 1),
		runs(0, 1, 1, api.MaxRows-1),
		runs(3, 2000, 4, 96, 3, 2000),
		every,
	}
}

// again is lists of runs of which two that are adjacent have the same N: they are not valid, but stand for integers.
func again() [][]api.Run {
	return [][]api.Run{
		runs(5, 2, 5, 1),
		runs(0, 1, 0, 1),
		runs(5, 1, 7, 1, 7, 1),
		runs(5, 1, 5, 1, 7, 1),
		runs(1, 1, 2, 1, 3, 1, 3, 4, 2, 1),
		runs(math.MaxInt, 2, math.MaxInt, 2),
		runs(math.MinInt, 2, math.MinInt, 2),
		runs(0, api.MaxRows-1, 0, 1),
		runs(0, 1, 0, api.MaxRows-1),
		slices.Repeat(runs(0, 1), api.MaxRows),
		slices.Repeat(runs(-3, 16), api.MaxRows/16),
	}
}

// empty is lists of runs of which one has no integer, or less: what else may be wrong with them is told later.
func empty() [][]api.Run {
	return [][]api.Run{
		runs(0, 0),
		runs(5, 0),
		runs(5, -1),
		runs(5, math.MinInt),
		runs(5, -1<<32),
		runs(5, 1-1<<32),
		runs(5, 1, 6, 0),
		runs(5, 0, 6, 1),
		runs(5, 1, 6, 0, 7, 1),
		runs(5, 1, 6, -1, 7, 1),
		runs(5, 2, 6, -1),
		runs(5, -1, 6, 2),
		runs(5, 1, 5, 0),
		runs(5, api.MaxRows, 6, 0),
		runs(5, api.MaxRows+1, 6, 0),
		runs(5, 0, 6, api.MaxRows+1),
		runs(5, api.MaxRows+1, 6, -1),
		runs(5, api.MaxRows, 6, 1, 7, 0),
		runs(5, math.MaxInt, 6, math.MaxInt, 7, 0),
		runs(5, math.MaxInt, 6, math.MinInt),
		runs(5, math.MinInt, 6, math.MinInt),
		runs(5, math.MaxInt, 6, 1-math.MaxInt),
		make([]api.Run, 3),
		make([]api.Run, 100000),
		append(slices.Repeat(runs(1, 1, 2, 1), 3000), api.Run{N: 3}),
	}
}

// long is lists of runs that stand for too many integers, among them those whose sum a smaller integer could not hold.
func long() [][]api.Run {
	return [][]api.Run{
		runs(0, api.MaxRows+1),
		runs(0, 1<<32),
		runs(0, 1<<32+1),
		runs(0, math.MaxInt),
		runs(0, api.MaxRows, 1, 1),
		runs(0, 1, 1, api.MaxRows),
		runs(0, 2048, 1, 2048, 2, 1),
		runs(0, 2048, 0, 2048, 0, 1),
		runs(0, api.MaxRows, 1, api.MaxRows),
		runs(0, math.MaxInt, 1, math.MaxInt),
		runs(0, math.MaxInt, 1, math.MaxInt, 2, 3),
		runs(0, math.MaxInt, 1, 1),
		runs(0, 1, 1, math.MaxInt),
		runs(0, 5, 1, math.MaxInt, 2, math.MaxInt),
		runs(0, 1<<62, 1, 1<<62, 2, 1<<62, 3, 1<<62),
		runs(0, 1<<62, 1, 1<<62, 2, 1<<62, 3, 1<<62, 4, 5),
		runs(0, 1<<31, 1, 1<<31),
		runs(0, 1<<31, 1, 1<<31, 2, 1),
		slices.Repeat(runs(0, 1, 1, 1), api.MaxRows/2+1),
		append(slices.Repeat(runs(0, 1, 1, 1), api.MaxRows/2), api.Run{N: 0, Many: 1}),
		slices.Repeat(runs(7, 1), api.MaxRows+1),
		slices.Repeat(runs(0, 1, 1, 1), 100000),
	}
}

// lists is all of these.
func lists() [][]api.Run {
	return slices.Concat(valid(), again(), empty(), long())
}

// mustFlat tells unless Flat answers want, or that error alone.
func mustFlat(t *testing.T, l []api.Run, want []int, wantE api.Errno) {
	t.Helper()
	got, e := Flat(l)
	if e != wantE || !slices.Equal(got, want) {
		t.Fatalf("Flat(%.100v) is %.100v and error %d, not %.100v and error %d", l, got, e, want, wantE)
	}
}

// mustAt tells unless At answers n and run, and true.
func mustAt(t *testing.T, l []api.Run, place, n, run int) {
	t.Helper()
	gotN, gotRun, ok := At(l, place)
	if !ok || gotN != n || gotRun != run {
		t.Fatalf("At(%.100v, %d) is %d, %d, %t, not %d, %d, true", l, place, gotN, gotRun, ok, n, run)
	}
}

// mustNotAt tells unless At answers that there is nothing.
func mustNotAt(t *testing.T, l []api.Run, place int) {
	t.Helper()
	if n, run, ok := At(l, place); ok || n != 0 || run != 0 {
		t.Fatalf("At(%.100v, %d) is %d, %d, %t, not 0, 0, false", l, place, n, run, ok)
	}
}

// mustPut tells unless Put answers want.
func mustPut(t *testing.T, l []int, want []byte) {
	t.Helper()
	b, e := Put(l)
	if e != api.OK || !bytes.Equal(b, want) {
		t.Fatalf("Put(%.100v) is %.100v and error %d, not %.100v", l, b, e, want)
	}
}

// mustTake tells unless Take answers want.
func mustTake(t *testing.T, b []byte, want []int) {
	t.Helper()
	l, e := Take(b)
	if e != api.OK || !slices.Equal(l, want) {
		t.Fatalf("Take(%.100v) is %.100v and error %d, not %.100v", b, l, e, want)
	}
}

// mustNotTake tells unless Take answers ErrCorrupt alone.
func mustNotTake(t *testing.T, b []byte) {
	t.Helper()
	l, e := Take(b)
	if e != api.ErrCorrupt || len(l) != 0 {
		t.Fatalf("Take(%.100v) is %.100v and error %d, not error %d", b, l, e, api.ErrCorrupt)
	}
}
