package delta

import (
	"bytes"
	"math"
	"math/rand"
	"slices"
	"testing"

	"warp/api"
	"warp/octets"
)

// P11.3: what follows from the other promises.

// mustReturn tells unless Take undoes Put for l, if l has bytes, and tells whether it has.
func mustReturn(t *testing.T, l []int) bool {
	t.Helper()
	b, e := Put(l)
	if e != api.OK {
		return false
	}
	mustTake(t, b, l)
	return true
}

func TestTakeUndoesPut(t *testing.T) {
	done := 0
	for _, l := range smallLists() {
		if mustReturn(t, l) {
			done++
		}
	}
	chance := rand.New(rand.NewSource(5))
	for i := range 3000 {
		many := chance.Intn(40)
		if i%100 == 0 {
			many = 4096 - chance.Intn(2)
		}
		if mustReturn(t, someInts(chance, many)) {
			done++
		}
	}
	if done < 1000 {
		t.Errorf("only %d lists had bytes", done)
	}
}

// Lists whose integers rise or fall by small steps from anywhere, as far as an int goes.
func TestTakeUndoesPutOfWalks(t *testing.T) {
	chance := rand.New(rand.NewSource(6))
	for range 300 {
		l := make([]int, 1+chance.Intn(100))
		l[0] = edges()[chance.Intn(len(edges()))]
		for i := 1; i < len(l); i++ {
			d := chance.Intn(201) - 100
			if _, e := step(-d, l[i-1]); e != api.OK {
				d = -d // the sum would be no int
			}
			l[i] = l[i-1] + d
		}
		if !mustReturn(t, l) {
			t.Fatalf("Put(%d) is an error", l)
		}
	}
}

// Put undoes Take, of whatever Take does not refuse.
func TestPutUndoesTake(t *testing.T) {
	chance := rand.New(rand.NewSource(7))
	done := 0
	for range 5000 {
		many := chance.Intn(20)
		b := encoded(uint64(many), someInts(chance, many)...)
		l, e := Take(b)
		if e != api.OK {
			continue
		}
		mustPut(t, l, b)
		done++
	}
	if done < 1000 {
		t.Errorf("only %d of the bytes were taken", done)
	}
}

// Different lists have different bytes.
func TestBytesDiffer(t *testing.T) {
	var all [][]byte
	for _, l := range smallLists() {
		if b, e := Put(l); e == api.OK {
			all = append(all, b)
		}
	}
	many := len(all)
	slices.SortFunc(all, bytes.Compare)
	if many < 100 || len(slices.CompactFunc(all, bytes.Equal)) != many {
		t.Errorf("two lists of %d have the same bytes", many)
	}
}

// behindFirst is Put of l without the length and the first step.
func behindFirst(t *testing.T, l []int) []byte {
	t.Helper()
	b, e := Put(l)
	r := octets.New(b)
	many, first := r.Num(), r.Int()
	if e != api.OK || many != uint64(len(l)) || first != l[0] {
		t.Fatalf("Put(%d) is %d and error %d", l, b, e)
	}
	return b[len(b)-r.Left():]
}

// The same number added to all integers changes the first step alone.
func TestStepsStayWhenAllAreShifted(t *testing.T) {
	chance := rand.New(rand.NewSource(8))
	for range 2000 {
		l := make([]int, 1+chance.Intn(30))
		for i := range l {
			l[i] = chance.Intn(2001) - 1000
		}
		for _, by := range []int{-1, 1, 1000, -1 << 40, chance.Int() / 2, math.MaxInt - 1000, math.MinInt + 1000} {
			shifted := slices.Clone(l)
			for i := range shifted {
				shifted[i] += by
			}
			if !bytes.Equal(behindFirst(t, l), behindFirst(t, shifted)) {
				t.Fatalf("the steps of %d are not those of %d", l, shifted)
			}
			if Rises(l) != Rises(shifted) {
				t.Fatalf("Rises of %d is not that of %d", l, shifted)
			}
		}
	}
}

// A list rises where no step is negative.
func TestRisesByItsSteps(t *testing.T) {
	for _, l := range smallLists() {
		b, e := Put(l)
		if e != api.OK || len(l) == 0 {
			continue
		}
		r := octets.New(b)
		r.Num()
		r.Int()
		rises := true
		for range len(l) - 1 {
			rises = r.Int() >= 0 && rises
		}
		if Rises(l) != rises {
			t.Fatalf("Rises(%d) is %t, but its steps are %d", l, !rises, b)
		}
	}
}
