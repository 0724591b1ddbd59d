package ask

import (
	"math/rand"
	"slices"
	"testing"

	"warp/api"
)

// P14.5: what follows from the other promises; and what all calls keep to.

// mustHold tells unless the truth values of l for the rows are possible for the zones of their columns.
func mustHold(t *testing.T, l []api.Node, rows []api.Row, many int) {
	t.Helper()
	z := zonesOf(rows, many)
	may := May(l, z)
	for _, r := range rows {
		if got := Eval(l, r); !may[got] {
			t.Fatalf("Eval(%s, %v) is %d, which is not possible: May is %v for %v", shown(l), r, got, may, z)
		}
	}
}

func TestTruthsArePossible(t *testing.T) {
	chance := rand.New(rand.NewSource(6))
	columns := []uint8{api.Text, api.Int, api.Bool, api.Text}
	leaf := func() api.Node { return someLeaf(chance, columns) }
	for range 4000 {
		l := someTree(chance, 1+chance.Intn(30), leaf).flat()
		for range 5 {
			var rows []api.Row
			for range 1 + chance.Intn(6) {
				rows = append(rows, someRow(chance, columns))
			}
			mustHold(t, l, rows, len(columns))
		}
	}
}

// words is all texts of at most so many of a few letters, among them bytes where no encoding begins.
func words(letters []string, many int) []string {
	list := []string{""}
	for from := 0; many > 0; many-- {
		to := len(list)
		for _, s := range list[from:to] {
			for _, c := range letters {
				list = append(list, s+c)
			}
		}
		from = to
	}
	return list
}

// All short patterns, and all pairs of short texts.
func TestLikeIsPossible(t *testing.T) {
	texts := words([]string{"a", "b", "%", "\xff"}, 2)
	for _, p := range words([]string{"a", "b", "%", "_", "\\", "\xff"}, 3) {
		l := likes(0, p)
		if Right([]uint8{api.Text}, l) != api.OK {
			continue
		}
		for _, s := range texts {
			for _, u := range texts {
				mustHold(t, l, []api.Row{{text(s)}, {text(u)}}, 1)
			}
			mustHold(t, l, []api.Row{{text(s)}, {null}}, 1)
		}
	}
}

// Where one truth value alone is possible, it is the one of each row, so that rows need not be read.
func TestOnlyTruthIsOfEachRow(t *testing.T) {
	chance := rand.New(rand.NewSource(7))
	columns := []uint8{api.Text, api.Int}
	leaf := func() api.Node { return someLeaf(chance, columns) }
	many := 0
	for range 4000 {
		l := someTree(chance, 1+chance.Intn(5), leaf).flat()
		rows := slices.Repeat([]api.Row{someRow(chance, columns)}, 3)
		z := zonesOf(rows, len(columns))
		if may := May(l, z); len(letters(may)) == 1 {
			many++
			if !may[Eval(l, rows[0])] {
				t.Fatalf("Eval(%s, %v) is %d, and only %s is possible", shown(l), rows[0], Eval(l, rows[0]), letters(may))
			}
		}
	}
	if many < 1000 {
		t.Errorf("%d conditions had one truth value", many)
	}
}

// All comes to the And of both, for rows and, where both are conditions, for zones; it is valid if both are, as long as it has no more nodes than may be.
func TestAllIsAnd(t *testing.T) {
	chance := rand.New(rand.NewSource(8))
	columns := []uint8{api.Text, api.Int, api.Bool}
	leaf := func() api.Node { return someLeaf(chance, columns) }
	short, long := 0, 0
	for range 5000 {
		a, b := someTree(chance, 1+chance.Intn(60), leaf).flat(), someTree(chance, 1+chance.Intn(60), leaf).flat()
		l := All(a, b)
		if len(a) > 40 || len(b) > 40 {
			continue
		}
		if len(l) > 40 {
			long++
			mustRight(t, columns, l, false)
			continue
		}
		short++
		mustRight(t, columns, l, true)
		for range 5 {
			r := someRow(chance, columns)
			mustEval(t, l, r, min(Eval(a, r), Eval(b, r)))
			mustEval(t, All(b, a), r, min(Eval(a, r), Eval(b, r)))
			z := zonesOf([]api.Row{r, someRow(chance, columns)}, len(columns))
			mustMay(t, l, z, combined(api.And, [][3]bool{May(a, z), May(b, z)}))
		}
		want := slices.Concat(Cols(a), Cols(b))
		slices.Sort(want)
		mustCols(t, l, slices.Compact(want)...)
	}
	if short < 1000 || long < 100 {
		t.Errorf("%d were short, %d were long", short, long)
	}
}

// De Morgan's laws hold for conditions, too.
func TestNotOfAndAndOr(t *testing.T) {
	chance := rand.New(rand.NewSource(9))
	columns := []uint8{api.Text, api.Int}
	leaf := func() api.Node { return someLeaf(chance, columns) }
	for range 2000 {
		a, b := someTree(chance, 1+chance.Intn(8), leaf).flat(), someTree(chance, 1+chance.Intn(8), leaf).flat()
		r := someRow(chance, columns)
		mustEval(t, not(both(a, b)), r, Eval(either(not(a), not(b)), r))
		mustEval(t, not(either(a, b)), r, Eval(both(not(a), not(b)), r))
		z := zonesOf([]api.Row{r, someRow(chance, columns)}, 2)
		mustMay(t, not(both(a, b)), z, May(either(not(a), not(b)), z))
		mustMay(t, not(either(a, b)), z, May(both(not(a), not(b)), z))
	}
}

// No call changes what it is given, or reads what lies beyond its length.
func TestArgumentsStay(t *testing.T) {
	l := both(less(1, num(5)), likes(0, "a%"), not(isNull(1)), isNull(0))
	memory := append(slices.Clone(l), isNull(7)...)
	row := api.Row{text("ab"), num(3), num(9)}
	z := append(zonesOf([]api.Row{row[:2]}, 2), api.Zone{Nulls: 3})
	types := []uint8{api.Text, api.Int, api.Bool}
	m, r, y, k := slices.Clone(memory), slices.Clone(row), slices.Clone(z), slices.Clone(types)
	n := len(l)
	mustRight(t, types[:2], memory[:n], true)
	mustRight(t, types[:1], memory[:n], false)
	mustEval(t, memory[:n], row[:2], api.No)
	mustMay(t, memory[:n], z[:2], set("N"))
	mustMay(t, memory[:n], z[:1], all)
	mustCols(t, memory[:n], 0, 1)
	mustAll(t, memory[:n], memory[:n], both(l, l))
	mustAll(t, memory[:n], always(), l)
	if !slices.Equal(memory, m) || !slices.Equal(row, r) || !slices.Equal(z, y) || !slices.Equal(types, k) {
		t.Errorf("arguments are now %v, %v, %v, %v", memory, row, z, types)
	}
}

// Results are memory of their own.
func TestResultsOwnTheirMemory(t *testing.T) {
	l := both(isNull(3), isNull(1))
	was := slices.Clone(l)
	for _, c := range [][2][]api.Node{{l, always()}, {always(), l}, {l, l}, {always(), always()}} {
		a, b := slices.Clone(c[0]), slices.Clone(c[1])
		one, two := All(c[0], c[1]), All(c[0], c[1])
		want := slices.Clone(two)
		clear(one[:cap(one)])
		if !slices.Equal(two, want) || !slices.Equal(c[0], a) || !slices.Equal(c[1], b) {
			t.Errorf("All answers memory that is not its own: %s", shown(two))
		}
		clear(a)
		mustAll(t, c[0], c[1], want)
	}
	one, two := Cols(l), Cols(l)
	clear(one[:cap(one)])
	if !slices.Equal(two, []int{1, 3}) || !slices.Equal(l, was) {
		t.Errorf("Cols answers memory that is not its own: %d", two)
	}
}
