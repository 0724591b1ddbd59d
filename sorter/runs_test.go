package sorter

import (
	"math"
	"math/big"
	"math/rand"
	"testing"

	"warp/api"
	"warp/purse"
)

// P18.3: how many runs there are, and how many times they are merged.

// mustRuns tells unless Runs answers as wanted.
func mustRuns(t *testing.T, rows []api.Row, most, want int, wanted api.Errno) {
	t.Helper()
	if got, e := Runs(rows, most); got != want || e != wanted {
		t.Fatalf("Runs(%s, %d) is %d and error %d, not %d and error %d", shown(rows), most, got, e, want, wanted)
	}
}

func TestRuns(t *testing.T) {
	rows := ints(3, 1, 2)
	for most, want := range map[int]int{16: 3, 17: 3, 31: 3, 32: 2, 33: 2, 47: 2, 48: 1, 49: 1, 1 << 20: 1, 1<<20 + 1: 1, 1 << 32: 1, math.MaxInt: 1} {
		mustRuns(t, rows, most, want, api.OK)
	}
	for _, most := range []int{15, 8, 1, 0, -1, -16, -1 << 32, math.MinInt + 8, math.MinInt} {
		mustRuns(t, rows, most, 0, api.ErrBudget)
		mustRuns(t, []api.Row{nil, nil, nil, rows[0]}, most, 0, api.ErrBudget)
		mustRuns(t, []api.Row{rows[0], nil, nil, nil}, most, 0, api.ErrBudget)
		mustRuns(t, nil, most, 0, api.OK)
		mustRuns(t, []api.Row{}, most, 0, api.OK)
	}
	mustRuns(t, []api.Row{nil, {}, nil, {}, nil}, 8, 5, api.OK)
	mustRuns(t, []api.Row{nil, {}, nil, {}, nil}, 16, 3, api.OK)
	mustRuns(t, []api.Row{nil}, 7, 0, api.ErrBudget)
	// A row that is not let in ends a run, though a later one would find room.
	mustRuns(t, []api.Row{sized(0, 60), sized(0, 50), sized(0, 40), sized(0, 40)}, 100, 3, api.OK)
	// What can't be written counts, too.
	mustRuns(t, []api.Row{nulls(33), {{Kind: 9, S: "x"}}}, 272, 2, api.OK)
}

// Runs is how many runs Sort makes, and Passes how many times it merges them.
func TestRunsOfSort(t *testing.T) {
	chance := rand.New(rand.NewSource(8))
	for range 3000 {
		rows := someRows(chance, 50, chance.Intn(60))
		most, fan := chance.Intn(2+2*largest(rows)+chance.Intn(300)), 2+chance.Intn(15)
		m := &model{left: most, free: math.MaxInt}
		m.sort(rows, fan)
		if len(rows) > 0 && most < largest(rows) {
			mustRuns(t, rows, most, 0, api.ErrBudget)
			continue
		}
		mustRuns(t, rows, most, m.cut, api.OK)
		if got := Passes(m.cut, fan); m.e == api.OK && got != m.times {
			t.Fatalf("Passes(%d, %d) is %d, but there were %d", m.cut, fan, got, m.times)
		}
	}
	rows := someRows(chance, 200, 30)
	mustRuns(t, rows, purse.Rows(rows), min(1, len(rows)), api.OK)
	mustRuns(t, rows, purse.Rows(rows)-1, 2, api.OK)
}

// mustPasses tells unless Passes answers as wanted.
func mustPasses(t *testing.T, runs, fan, want int) {
	t.Helper()
	if got := Passes(runs, fan); got != want {
		t.Fatalf("Passes(%d, %d) is %d, not %d", runs, fan, got, want)
	}
}

func TestPassesOfRuns(t *testing.T) {
	for _, n := range []int{1, 0, -1, -2, -1 << 32, math.MinInt + 1, math.MinInt} {
		for _, runs := range []int{1, 2, 3, 100, math.MaxInt, 0, -5} {
			mustPasses(t, runs, n, 0)
		}
	}
	for _, n := range []int{0, -1, -2, -17, -1 << 32, math.MinInt + 1, math.MinInt} {
		for _, fan := range []int{2, 3, 16, 17, math.MaxInt, 1, 0, -3} {
			mustPasses(t, n, fan, 0)
		}
	}
}

// power is the least number of times that fan is to be multiplied by itself to be no less than runs: each merge divides by fan, and rounding up again and again is as rounding up once.
func power(runs, fan int) int {
	times := 0
	for n := big.NewInt(1); n.Cmp(big.NewInt(int64(runs))) < 0; times++ {
		n.Mul(n, big.NewInt(int64(fan)))
	}
	return times
}

// All small numbers of runs, and those at the edges of what an int holds.
func TestPassesArePowers(t *testing.T) {
	for fan := 2; fan <= 40; fan++ {
		for runs := 1; runs <= 2000; runs++ {
			mustPasses(t, runs, fan, power(runs, fan))
		}
	}
	edges := []int{1, 2, 3, 4, 5, 16, 17, 1 << 31, 1<<31 + 1, 1 << 32, 1<<32 + 1, 1 << 62, 1<<62 - 1, 1<<62 + 1, math.MaxInt / 2, math.MaxInt/2 + 1, math.MaxInt/2 + 2, math.MaxInt - 1, math.MaxInt}
	for _, runs := range edges {
		for _, fan := range edges[1:] {
			mustPasses(t, runs, fan, power(runs, fan))
		}
	}
	mustPasses(t, math.MaxInt, 2, 63)
	mustPasses(t, math.MaxInt, math.MaxInt-1, 2)
	mustPasses(t, math.MaxInt, math.MaxInt, 1)
}
