package column

import (
	"bytes"
	"math/rand"
	"slices"
	"testing"

	"warp/api"
)

// P12.3: what follows from the other promises.

// mustReturn tells unless Take undoes Put for a column, in every encoding.
func mustReturn(t *testing.T, kind uint8, l []api.Value) {
	t.Helper()
	for _, how := range encodings {
		b, used, e := Put(kind, l, how)
		if e != api.OK || used != how && used != api.Plain || len(b) == 0 || b[0] != used {
			t.Fatalf("Put(%d, %s, %d) is %s, encoding %d and error %d", kind, show(l), how, show(b), used, e)
		}
		mustTake(t, kind, b, l, used)
		// Put in the encoding that was used, it is used again.
		mustPut(t, kind, l, used, b, used)
	}
}

func TestTakeUndoesPut(t *testing.T) {
	chance := rand.New(rand.NewSource(5))
	for _, kind := range kinds {
		all := append(lists(kind), smallLists(kind)...)
		for i := range 1000 {
			many := chance.Intn(60)
			if i%100 == 0 {
				many = 4096 - chance.Intn(2)
			}
			all = append(all, someList(chance, kind, many))
		}
		for _, l := range all {
			mustReturn(t, kind, l)
		}
	}
}

// smallLists is all columns of a kind of at most five of a few values.
func smallLists(kind uint8) [][]api.Value {
	few := map[uint8][]api.Value{api.Bool: truths(-1, 0, 1), api.Int: append(ints(0, -1, 2), null), api.Text: append(strs("", "a", "ab"), null)}[kind]
	all := [][]api.Value{nil}
	for from, many := 0, 0; many < 5; many++ {
		to := len(all)
		for _, l := range all[from:to] {
			for _, v := range few {
				all = append(all, append(slices.Clone(l), v))
			}
		}
		from = to
	}
	return all
}

// Different columns have different bytes, in whatever encodings; so has one column in different encodings.
func TestBytesDiffer(t *testing.T) {
	for _, kind := range kinds {
		var all [][]byte
		for _, l := range smallLists(kind) {
			for _, how := range encodings {
				if b, used, e := Put(kind, l, how); e == api.OK && used == how {
					all = append(all, b)
				}
			}
		}
		many := len(all)
		slices.SortFunc(all, bytes.Compare)
		if many < 700 || len(slices.CompactFunc(all, bytes.Equal)) != many {
			t.Errorf("two of %d columns have the same bytes", many)
		}
	}
}

// Put undoes Take, and Words and Best hold together with both.
func TestBestIsTaken(t *testing.T) {
	for _, kind := range kinds {
		for _, l := range smallLists(kind) {
			how, e := Best(kind, l)
			if e != api.OK {
				t.Fatalf("Best(%d, %v) is error %d", kind, l, e)
			}
			b, used, _ := Put(kind, l, how)
			mustTake(t, kind, b, l, used)
			if used != how {
				t.Fatalf("Best(%d, %v) is %d, for which %d is used", kind, l, how, used)
			}
			if _, ok := Words(b); ok != (kind == api.Text && how == api.Dict) {
				t.Fatalf("Words(%d) is %t", b, ok)
			}
		}
	}
}
