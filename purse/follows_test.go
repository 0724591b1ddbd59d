package purse

import (
	"math"
	"math/rand"
	"testing"

	"warp/api"
)

// P6.3: what is held is what was taken without what was given back, and never more than the limit.

// book is what was done with a purse, by the calls that answered OK: all amounts taken (greater than 0) and given back (less than 0), in their order.
type book struct {
	most  int
	lines []int
}

// told is how much is held, and the most that was ever held, by what the book says.
func (b *book) told() (now, peak int) {
	for _, n := range b.lines {
		now += n
		peak = max(peak, now)
	}
	return now, peak
}

// agree tells unless the purse is as the book says, and within its limit.
func (b *book) agree(t *testing.T, p *Purse) {
	t.Helper()
	now, peak := b.told()
	mustHave(t, p, now, peak, b.most-now)
	if p.Now() < 0 || p.Now() > b.most || p.Peak() > b.most {
		t.Errorf("%d is held, and %d was, with the limit %d", p.Now(), p.Peak(), b.most)
	}
}

// take does the same to both, and tells unless the purse answers what it must.
func (b *book) take(t *testing.T, p *Purse, n int) {
	t.Helper()
	now, _ := b.told()
	switch {
	case n < 0:
		mustNotTake(t, p, n, api.ErrArg)
	case n > b.most-now:
		mustNotTake(t, p, n, api.ErrBudget)
	default:
		mustTake(t, p, n)
		b.lines = append(b.lines, n)
	}
}

// give does the same to both, and tells unless the purse answers what it must.
func (b *book) give(t *testing.T, p *Purse, n int) {
	t.Helper()
	now, _ := b.told()
	if n < 0 || n > now {
		mustNotGive(t, p, n, api.ErrArg)
		return
	}
	mustGive(t, p, n)
	b.lines = append(b.lines, -n)
}

// All rows of four calls with small amounts, on all purses with a small limit.
func TestAllShortRowsOfCalls(t *testing.T) {
	for most := range 4 {
		amounts := most + 3 // from -1 to most + 1
		calls := 2 * amounts
		for row := range calls * calls * calls * calls {
			p, b := newPurse(t, most), &book{most: most}
			for range 4 {
				if call := row % calls; call < amounts {
					b.take(t, p, call-1)
				} else {
					b.give(t, p, call-amounts-1)
				}
				row /= calls
				b.agree(t, p)
			}
			if t.Failed() {
				t.Fatalf("limit %d: the purse and the book differ after %d", most, b.lines)
			}
		}
	}
}

// amount is a number by chance: mostly one that may be taken or given back, or just may not.
func amount(chance *rand.Rand, most int) int {
	switch chance.Intn(8) {
	case 0:
		return -chance.Intn(most + 2)
	case 1:
		return most + chance.Intn(3)
	case 2:
		return math.MaxInt - chance.Intn(most+2)
	case 3:
		return math.MinInt + chance.Intn(most+2)
	}
	return chance.Intn(most/3 + 2)
}

// Long rows of calls by chance, also with amounts at the edges of what a purse may hold at that time.
func TestLongRowsOfCalls(t *testing.T) {
	for seed := range 60 {
		chance := rand.New(rand.NewSource(int64(seed)))
		most := max(0, min(1<<(seed%21)+chance.Intn(5)-2, api.MaxBudget))
		p, b := newPurse(t, most), &book{most: most}
		for range 200 {
			now, _ := b.told()
			switch chance.Intn(6) {
			case 0, 1:
				b.take(t, p, amount(chance, most))
			case 2, 3:
				b.give(t, p, amount(chance, most))
			case 4:
				b.take(t, p, most-now+chance.Intn(3)-1)
			case 5:
				b.give(t, p, now+chance.Intn(3)-1)
			}
			b.agree(t, p)
		}
		if t.Failed() {
			t.Fatalf("seed %d", seed)
		}
	}
}
