package purse

import (
	"math"
	"testing"

	"warp/api"
)

// P6.1: what is held, and what is refused.

func TestNew(t *testing.T) {
	for _, most := range []int{0, 1, 2, 15, 32, 1000, 1 << 16, api.MaxBudget - 1, api.MaxBudget} {
		mustHave(t, newPurse(t, most), 0, 0, most)
	}
}

func TestNewWrong(t *testing.T) {
	for _, most := range append(below(), beyond(api.MaxBudget)...) {
		if p, e := New(most); p != nil || e != api.ErrArg {
			t.Errorf("New(%d) is %v and error %d", most, p, e)
		}
	}
}

// The chapter's example.
func TestExample(t *testing.T) {
	p := newPurse(t, 10)
	mustTake(t, p, 7)
	mustNotTake(t, p, 4, api.ErrBudget)
	mustGive(t, p, 3)
	mustTake(t, p, 4)
	mustHave(t, p, 8, 8, 2)
}

func TestPursesAreApart(t *testing.T) {
	a, b := newPurse(t, 10), newPurse(t, 10)
	mustTake(t, a, 10)
	mustHave(t, b, 0, 0, 10)
	mustTake(t, b, 4)
	mustGive(t, a, 9)
	mustHave(t, a, 1, 10, 9)
	mustHave(t, b, 4, 4, 6)
}

// All of the limit can be held, and nothing beyond it.
func TestTakeUpToTheLimit(t *testing.T) {
	for _, most := range []int{0, 1, 2, 10, 255, 256, api.MaxBudget - 1, api.MaxBudget} {
		p := newPurse(t, most)
		mustNotTake(t, p, most+1, api.ErrBudget)
		mustTake(t, p, most)
		mustHave(t, p, most, most, 0)
		mustNotTake(t, p, 1, api.ErrBudget)
		mustTake(t, p, 0)
		mustHave(t, p, most, most, 0)
		mustGive(t, p, most)
		mustHave(t, p, 0, most, most)
		mustTake(t, p, most)
		mustHave(t, p, most, most, 0)
	}
}

func TestTakeBitByBit(t *testing.T) {
	p := newPurse(t, 1000)
	for n := range 1000 {
		mustHave(t, p, n, n, 1000-n)
		mustNotTake(t, p, 1001-n, api.ErrBudget)
		mustTake(t, p, 1)
	}
	mustNotTake(t, p, 1, api.ErrBudget)
}

// What is negative goes ahead of what is too much: neither depends on how much is held.
func TestTakeWrong(t *testing.T) {
	for _, most := range []int{0, 1, 10, api.MaxBudget} {
		for _, now := range []int{0, most / 2, most} {
			p := holding(t, most, now, now)
			for _, n := range below() {
				mustNotTake(t, p, n, api.ErrArg)
			}
			for _, n := range beyond(most - now) {
				mustNotTake(t, p, n, api.ErrBudget)
			}
		}
	}
}

func TestGiveWrong(t *testing.T) {
	for _, most := range []int{0, 1, 10, api.MaxBudget} {
		for _, now := range []int{0, most / 2, most} {
			// More was held before: what was given back can't be given again.
			p := holding(t, most, now, most)
			for _, n := range append(below(), beyond(now)...) {
				mustNotGive(t, p, n, api.ErrArg)
			}
		}
	}
}

func TestGive(t *testing.T) {
	p := holding(t, 50, 30, 30)
	mustGive(t, p, 0)
	mustHave(t, p, 30, 30, 20)
	mustGive(t, p, 12)
	mustHave(t, p, 18, 30, 32)
	mustGive(t, p, 18)
	mustHave(t, p, 0, 30, 50)
	mustGive(t, p, 0)
	mustNotGive(t, p, 1, api.ErrArg)
}

// The peak is the greatest amount there was: less does not lower it, nor does what is refused raise it.
func TestPeak(t *testing.T) {
	p := newPurse(t, 100)
	for _, c := range []struct{ take, give, now, peak int }{
		{0, 0, 0, 0},
		{40, 10, 30, 40},
		{10, 0, 40, 40},
		{0, 25, 15, 40},
		{24, 0, 39, 40},
		{2, 41, 0, 41},
		{41, 41, 0, 41},
		{100, 1, 99, 100},
		{1, 100, 0, 100},
		{50, 0, 50, 100},
	} {
		mustTake(t, p, c.take)
		mustGive(t, p, c.give)
		mustHave(t, p, c.now, c.peak, 100-c.now)
		mustNotTake(t, p, 101-c.now, api.ErrBudget)
		mustNotGive(t, p, c.now+1, api.ErrArg)
	}
}

// The three that tell change nothing.
func TestTellingChangesNothing(t *testing.T) {
	p := holding(t, 20, 5, 12)
	for range 3 {
		mustHave(t, p, 5, 12, 15)
	}
	mustTake(t, p, 15)
	mustHave(t, p, 20, 20, 0)
}

// On a nil Purse, that there is none goes ahead of all that is wrong with n.
func TestNilPurse(t *testing.T) {
	var p *Purse
	for _, n := range append(append(below(), beyond(0)...), 0, 8, api.MaxBudget, math.MaxInt) {
		mustNotTake(t, p, n, api.ErrNone)
		mustNotGive(t, p, n, api.ErrNone)
	}
	mustHave(t, p, 0, 0, 0)
}
