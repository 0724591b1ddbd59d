package spill

import (
	"math/rand"
	"slices"
	"testing"

	"warp/api"
)

// P17.1: rows laid at once, and how many bytes they need.

// The chapter's examples.
func TestExamples(t *testing.T) {
	s := newStore(t, 1)
	rows := []api.Row{{num(5), null}}
	f := mustPut(t, s, rows)
	mustLie(t, s, f, 1, []int{0}, []byte{2, 2, 10, 0})
	if n := Bytes(rows); n != 4 {
		t.Errorf("Bytes is %d", n)
	}
}

func TestPut(t *testing.T) {
	chance := rand.New(rand.NewSource(1))
	for round := range 500 {
		s := newStore(t, 300)
		s.Alloc(round % 3)
		rows := someRows(chance, 60)
		var ids []int
		for i := range need(len(codes(rows))) {
			ids = append(ids, round%3+i)
		}
		mustLie(t, s, mustPut(t, s, rows), len(rows), ids, codes(rows))
		mustUse(t, s, round%3+len(ids))
	}
}

// The first row with an error is told, and all pages are freed.
func TestPutOfWrongRows(t *testing.T) {
	long, wrong := nulls(33), api.Row{truth(2)}
	for _, x := range []struct {
		rows []api.Row
		want api.Errno
	}{
		{[]api.Row{long}, api.ErrLong}, {[]api.Row{wrong}, api.ErrType}, {[]api.Row{long, wrong}, api.ErrLong},
		{[]api.Row{wrong, long}, api.ErrType}, {[]api.Row{filled(100), long}, api.ErrLong}, {[]api.Row{filled(100), filled(56), wrong}, api.ErrType},
		{[]api.Row{filled(168), filled(56), wrong}, api.ErrFull}, {[]api.Row{filled(168), wrong, filled(56)}, api.ErrType},
		{[]api.Row{filled(168), filled(55), long}, api.ErrLong}, {[]api.Row{filled(168), filled(55)}, api.ErrFull},
	} {
		s := newStore(t, 5)
		s.Alloc(2)
		mustNotPut(t, s, x.rows, x.want)
		// Nothing is left of it.
		mustLie(t, s, mustPut(t, s, []api.Row{filled(168)}), 1, []int{2, 3, 4}, code(filled(168)))
	}
}

func TestPutWithoutStore(t *testing.T) {
	for _, rows := range [][]api.Row{nil, {}, {nil}, {nulls(33)}, {{truth(2)}}, {filled(9), nil}} {
		mustNotPut(t, nil, rows, api.ErrNone)
	}
}

func TestBytes(t *testing.T) {
	for _, x := range []struct {
		rows []api.Row
		want int
	}{
		{nil, 0}, {[]api.Row{}, 0}, {[]api.Row{nil}, 1}, {[]api.Row{{}, nil, {}}, 3}, {[]api.Row{{null}}, 2}, {[]api.Row{{truth(1)}, {truth(0)}}, 6},
		{[]api.Row{{num(123)}}, 3}, {[]api.Row{{num(124)}}, 4}, {[]api.Row{{num(-124)}}, 3}, {[]api.Row{{num(-125)}}, 4}, {[]api.Row{{num(-1 << 63)}}, 11},
		{[]api.Row{{long(247)}}, 250}, {[]api.Row{{long(248)}}, 252}, {[]api.Row{{long(1024)}}, 1029}, {[]api.Row{nulls(32)}, 33},
		// The encoding of a row is told of rows that can't be laid, too.
		{[]api.Row{nulls(33)}, 34}, {[]api.Row{nulls(247)}, 248}, {[]api.Row{nulls(248)}, 250}, {[]api.Row{nulls(256)}, 259}, {[]api.Row{nulls(70000)}, 70004},
		{[]api.Row{{truth(2)}}, 2}, {[]api.Row{{long(1025)}, {{Kind: 9, N: 1 << 40}}}, 4}, {[]api.Row{wrong()}, 1 + len(wrong())},
	} {
		if got := Bytes(x.rows); got != x.want {
			t.Errorf("Bytes(%s) is %d, not %d", shown(x.rows), got, x.want)
		}
	}
	if got, want := Bytes(edges()), len(codes(edges())); got != want {
		t.Errorf("Bytes of many rows is %d, not %d", got, want)
	}
}

func TestBytesByChance(t *testing.T) {
	chance := rand.New(rand.NewSource(2))
	for range 2000 {
		rows := someRows(chance, 20)
		if chance.Intn(3) == 0 {
			rows = append(rows, append(someRow(chance), wrong()[chance.Intn(len(wrong()))]))
		}
		if got, want := Bytes(rows), len(codes(rows)); got != want {
			t.Fatalf("Bytes(%s) is %d, not %d", shown(rows), got, want)
		}
		// What lies beyond the length of the rows does not count.
		more := append(slices.Clone(rows), nil)
		if got := Bytes(more[:len(rows)]); got != len(codes(rows)) {
			t.Fatalf("Bytes(%s) is %d", shown(rows), got)
		}
	}
}
