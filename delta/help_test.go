package delta

import (
	"bytes"
	"math"
	"math/big"
	"math/rand"
	"slices"
	"testing"

	"warp/api"
	"warp/octets"
)

// What the tests of this package share.

// edges is integers at the ends of what an int can hold, in the middle of them, and around 0, in increasing order.
func edges() []int {
	return []int{
		math.MinInt, math.MinInt + 1, math.MinInt + 2, -1<<62 - 1, -1 << 62, -1<<62 + 1, -1<<32 - 1, -1 << 32, -1 << 31, -125, -124, -2, -1,
		0, 1, 2, 123, 124, 255, 1<<31 - 1, 1 << 31, 1 << 32, 1<<62 - 1, 1 << 62, 1<<62 + 1, math.MaxInt - 2, math.MaxInt - 1, math.MaxInt,
	}
}

// whole is n as an integer of any size, with which the tests reckon.
func whole(n int) *big.Int {
	return big.NewInt(int64(n))
}

// step is what Step must answer for a and b.
func step(a, b int) (int, api.Errno) {
	d := new(big.Int).Sub(whole(b), whole(a))
	if !d.IsInt64() {
		return 0, api.ErrRange
	}
	return int(d.Int64()), api.OK
}

// encoded is bytes in the form of those that Put answers, for any steps, of which there are so many as told.
func encoded(many uint64, steps ...int) []byte {
	b := octets.Num(nil, many)
	for _, s := range steps {
		b = append(b, octets.Int(nil, s)...)
	}
	return b
}

// put is what Put must answer for l.
func put(l []int) ([]byte, api.Errno) {
	if len(l) > api.MaxRows {
		return nil, api.ErrLong
	}
	var steps []int
	for i, n := range l {
		before := 0
		if i > 0 {
			before = l[i-1]
		}
		s, e := step(before, n)
		if e != api.OK {
			return nil, e
		}
		steps = append(steps, s)
	}
	return encoded(uint64(len(l)), steps...), api.OK
}

// taken is what Take must answer for b, and whether there is such a list. It sums up integers of any size.
func taken(b []byte) ([]int, bool) {
	r := octets.New(b)
	many := r.Num()
	var l []int
	sum := new(big.Int)
	for i := uint64(0); i < many; i++ {
		sum.Add(sum, whole(r.Int()))
		if r.Bad() || i >= api.MaxRows || !sum.IsInt64() {
			return nil, false
		}
		l = append(l, int(sum.Int64()))
	}
	return l, r.End() == api.OK
}

// someInts is so many integers by chance, near to each other or far from each other, so that Put may have an error for them.
func someInts(chance *rand.Rand, many int) []int {
	far := chance.Intn(64)
	l := make([]int, 0, many)
	for range many {
		n := int(chance.Uint64()) >> far
		if chance.Intn(3) == 0 {
			n = chance.Intn(5) - 2
		}
		l = append(l, n)
	}
	return l
}

// smallLists is all lists of at most four integers of a few, among them those that are farthest from each other.
func smallLists() [][]int {
	lists := [][]int{nil}
	for from := 0; from < len(lists); from++ {
		if len(lists[from]) < 4 {
			for _, n := range []int{math.MinInt, -1 << 62, -300, -1, 0, 1, 1 << 62, math.MaxInt} {
				lists = append(lists, append(slices.Clone(lists[from]), n))
			}
		}
	}
	return lists
}

// mustStep tells unless Step answers as the difference of integers of any size tells.
func mustStep(t *testing.T, a, b int) {
	t.Helper()
	want, wantE := step(a, b)
	if d, e := Step(a, b); d != want || e != wantE {
		t.Fatalf("Step(%d, %d) is %d and error %d, not %d and error %d", a, b, d, e, want, wantE)
	}
}

// mustPut tells unless Put answers want.
func mustPut(t *testing.T, l []int, want []byte) {
	t.Helper()
	b, e := Put(l)
	if e != api.OK || !bytes.Equal(b, want) {
		t.Fatalf("Put(%.100v) is %.100v and error %d, not %.100v", l, b, e, want)
	}
}

// mustNotPut tells unless Put answers that error alone.
func mustNotPut(t *testing.T, l []int, want api.Errno) {
	t.Helper()
	b, e := Put(l)
	if e != want || len(b) != 0 {
		t.Fatalf("Put(%.100v), %d integers, is %d bytes and error %d, not error %d", l, len(l), len(b), e, want)
	}
}

// mustPutAs tells unless Put answers as put does, and tells whether that is bytes.
func mustPutAs(t *testing.T, l []int) bool {
	t.Helper()
	want, e := put(l)
	if e != api.OK {
		mustNotPut(t, l, e)
		return false
	}
	mustPut(t, l, want)
	return true
}

// mustTake tells unless Take answers want.
func mustTake(t *testing.T, b []byte, want []int) {
	t.Helper()
	l, e := Take(b)
	if e != api.OK || !slices.Equal(l, want) {
		t.Fatalf("Take(%.100v) is %.100v and error %d, not %.100v", b, l, e, want)
	}
}

// mustNotTake tells unless Take answers ErrCorrupt alone.
func mustNotTake(t *testing.T, b []byte) {
	t.Helper()
	l, e := Take(b)
	if e != api.ErrCorrupt || len(l) != 0 {
		t.Fatalf("Take(%.100v) is %.100v and error %d, not error %d", b, l, e, api.ErrCorrupt)
	}
}

// mustTakeAs tells unless Take answers as taken does, and tells whether that is a list.
func mustTakeAs(t *testing.T, b []byte) bool {
	t.Helper()
	want, ok := taken(b)
	if ok {
		mustTake(t, b, want)
		mustPut(t, want, b)
	} else {
		mustNotTake(t, b)
	}
	return ok
}
