package sorter

import (
	"math/rand"
	"slices"
	"testing"

	"warp/api"
	"warp/pages"
	"warp/purse"
)

// P18.2: errors, and that nothing stays taken, which mustSort tells, too.

// A row for which there is no memory at all, at each place.
func TestRowThatIsTooLarge(t *testing.T) {
	for i := range 10 {
		rows := slices.Repeat(ints(1), 10)
		rows[i] = sized(0, 49)
		mustFail(t, rows, some(up(0)), 2, 48, 100, api.ErrBudget)
		rows[i] = sized(0, 32)
		mustNeed(t, rows, some(up(0)), 2, 64)
	}
	mustFail(t, []api.Row{nil}, nil, 2, 7, 100, api.ErrBudget)
	mustNeed(t, []api.Row{nil}, nil, 2, 8)
	// There may be no memory, though there are rows.
	if l, e := Sort(&pages.Store{}, &purse.Purse{}, []api.Row{nil}, nil, 2); l != nil || e != api.ErrBudget {
		t.Errorf("Sort is %s and error %d", shown(l), e)
	}
}

// Memory may be enough for each run, but not for the first rows of as many of them as are merged.
func TestFirstRowsThatAreTooLarge(t *testing.T) {
	rows := []api.Row{sized(1, 60), sized(2, 60), sized(3, 60)}
	mustFail(t, rows, some(up(0)), 2, 119, 100, api.ErrBudget)
	mustNeed(t, rows, some(up(0)), 2, 120)
	// Only the second row of a run is too large beside the first one of the other run.
	rows = []api.Row{sized(1, 20), sized(2, 70), sized(3, 80), sized(0, 20)}
	mustFail(t, rows, some(up(0)), 2, 100, 100, api.ErrBudget)
	mustNeed(t, rows, some(up(0)), 2, 150)
}

// The rows are not as they can be written; the first row that is written tells the error.
func TestRowsThatCannotBeWritten(t *testing.T) {
	long, wrong := slices.Repeat(api.Row{num(5)}, 33), api.Row{{Kind: 7, S: "12345678"}}
	for i := range 8 {
		rows := slices.Repeat(ints(1), 8)
		rows[i] = long
		mustFail(t, rows, some(up(0)), 2, purse.Row(long), 100, api.ErrLong)
		rows[i] = wrong
		mustFail(t, rows, some(up(0)), 2, 32, 100, api.ErrType)
	}
	two := []api.Row{long, wrong, nil}
	mustFail(t, two, some(up(0)), 2, 296, 100, api.ErrLong)
	mustFail(t, two, some(down(0)), 2, 296, 100, api.ErrType)
}

// Of several errors, that comes which Sort meets first.
func TestFirstError(t *testing.T) {
	wrong, large := api.Row{{N: 1}}, sized(0, 500)
	mustFail(t, []api.Row{wrong, large}, nil, 2, 100, 0, api.ErrType)
	mustFail(t, []api.Row{large, wrong}, nil, 2, 100, 0, api.ErrBudget)
	mustFail(t, append(slices.Repeat([]api.Row{nulls(6)}, 8), large), nil, 2, 100, 1, api.ErrFull)
	mustFail(t, append(slices.Repeat([]api.Row{nulls(6)}, 8), large), nil, 2, 100, 8, api.ErrBudget)
}

// Each number of free pages, so that there is none at each place of Sort: in runs, and in passes.
func TestNoFreePage(t *testing.T) {
	chance := rand.New(rand.NewSource(7))
	rows := equal(chance, 40, 75)
	for _, fan := range []int{2, 3, 5} {
		left := 75 * fan
		m := mustNeed(t, rows, some(up(0)), fan, left)
		for free := range m.most {
			mustFail(t, rows, some(up(0)), fan, left, free, api.ErrFull)
		}
		mustSort(t, rows, some(up(0)), fan, left, m.most)
	}
	if l, e := Sort(&pages.Store{}, newRoom(t, 100, 0).p, rows, nil, 2); l != nil || e != api.ErrFull {
		t.Errorf("Sort is %s and error %d", shown(l), e)
	}
}

// A store and a purse serve again and again, after errors as well.
func TestSortAgain(t *testing.T) {
	o := newRoom(t, 64, 7)
	rows := ints(5, 3, 4, 1, 2, 0)
	for range 20 {
		for _, c := range []struct {
			rows []api.Row
			e    api.Errno
		}{
			{rows, api.OK},
			{append(ints(5, 3, 4, 1), sized(9, 65)), api.ErrBudget},
			{slices.Repeat(rows, 30), api.ErrFull},
			{append(ints(5, 3, 4), api.Row{{N: 1}}, nil, nil), api.ErrType},
		} {
			if _, e := Sort(o.s, o.p, c.rows, some(up(0)), 2); e != c.e {
				t.Fatalf("Sort of %s is error %d, not %d", shown(c.rows), e, c.e)
			}
			o.mustBeAsBefore(t)
		}
	}
}
