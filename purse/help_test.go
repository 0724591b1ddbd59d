package purse

import (
	"math"
	"testing"

	"warp/api"
)

// What the tests of this package share.

// newPurse is a purse with that limit.
func newPurse(t *testing.T, most int) *Purse {
	t.Helper()
	p, e := New(most)
	if p == nil || e != api.OK {
		t.Fatalf("New(%d) is %v and error %d", most, p, e)
	}
	return p
}

// holding is a purse with that limit, of which so much is held, and was at most.
func holding(t *testing.T, most, now, peak int) *Purse {
	t.Helper()
	p := newPurse(t, most)
	mustTake(t, p, peak)
	mustGive(t, p, peak-now)
	mustHave(t, p, now, peak, most-now)
	return p
}

// below is numbers less than 0.
func below() []int {
	return []int{-1, -2, -8, -api.MaxBudget, -api.MaxBudget - 1, -1 << 31, -1 << 32, 1 - 1<<32, math.MinInt + 1, math.MinInt}
}

// beyond is numbers greater than n, among them those that wrap round when something is added to them or when they are cut down to fewer bits.
func beyond(n int) []int {
	return []int{n + 1, n + 2, n + 1<<20, n + 1<<31, n + 1<<32, 1 << 32, math.MaxInt - n, math.MaxInt - 1, math.MaxInt}
}

// mustHave tells unless so much is held, was held at most, and may be held yet.
func mustHave(t *testing.T, p *Purse, now, peak, left int) {
	t.Helper()
	if p.Now() != now || p.Peak() != peak || p.Left() != left {
		t.Errorf("Now, Peak and Left are %d, %d and %d, not %d, %d and %d", p.Now(), p.Peak(), p.Left(), now, peak, left)
	}
}

// mustTake tells unless n can be taken.
func mustTake(t *testing.T, p *Purse, n int) {
	t.Helper()
	if e := p.Take(n); e != api.OK {
		t.Errorf("Take(%d) is error %d", n, e)
	}
}

// mustGive tells unless n can be given back.
func mustGive(t *testing.T, p *Purse, n int) {
	t.Helper()
	if e := p.Give(n); e != api.OK {
		t.Errorf("Give(%d) is error %d", n, e)
	}
}

// mustNotTake tells unless Take of n has that error, and changes nothing.
func mustNotTake(t *testing.T, p *Purse, n int, want api.Errno) {
	t.Helper()
	mustRefuse(t, p, "Take", p.Take, n, want)
}

// mustNotGive tells unless Give of n has that error, and changes nothing.
func mustNotGive(t *testing.T, p *Purse, n int, want api.Errno) {
	t.Helper()
	mustRefuse(t, p, "Give", p.Give, n, want)
}

// mustRefuse tells unless a call on p with n has that error, and changes nothing.
func mustRefuse(t *testing.T, p *Purse, name string, call func(n int) api.Errno, n int, want api.Errno) {
	t.Helper()
	now, peak, left := p.Now(), p.Peak(), p.Left()
	if e := call(n); e != want {
		t.Errorf("%s(%d) is error %d, not %d", name, n, e, want)
	}
	mustHave(t, p, now, peak, left)
}
