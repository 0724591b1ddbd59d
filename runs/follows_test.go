package runs

import (
	"bytes"
	"math/rand"
	"slices"
	"testing"

	"warp/api"
)

// P9.3: what follows from the other promises.

// smallLists is all lists of at most five integers of a few.
func smallLists() [][]int {
	lists := [][]int{nil}
	for from := 0; from < len(lists); from++ {
		if len(lists[from]) < 5 {
			for _, n := range []int{-2, 0, 1, 300} {
				lists = append(lists, append(slices.Clone(lists[from]), n))
			}
		}
	}
	return lists
}

// mustReturn tells unless Flat undoes Of for l, and Take undoes Put.
func mustReturn(t *testing.T, l []int) {
	t.Helper()
	list := Of(l)
	if !Right(list) {
		t.Fatalf("Of(%.100v) is %.100v, which is not valid", l, list)
	}
	mustFlat(t, list, l, api.OK)
	place := 0
	for run, x := range list {
		mustAt(t, list, place, x.N, run)
		place += x.Many
		mustAt(t, list, place-1, x.N, run)
	}
	mustNotAt(t, list, place)
	b, e := Put(l)
	if e != api.OK {
		t.Fatalf("Put(%.100v) is error %d", l, e)
	}
	mustTake(t, b, l)
}

func TestFlatUndoesOfAndTakeUndoesPut(t *testing.T) {
	for _, l := range smallLists() {
		mustReturn(t, l)
	}
	chance := rand.New(rand.NewSource(4))
	for i := range 1000 {
		many := chance.Intn(60)
		if i%50 == 0 {
			many = 4096 - chance.Intn(2)
		}
		mustReturn(t, someInts(chance, many))
	}
}

// Of undoes Flat for valid lists alone.
func TestOfUndoesFlat(t *testing.T) {
	for _, l := range lists() {
		all, e := Flat(l)
		if e == api.OK && slices.Equal(Of(all), l) != Right(l) {
			t.Errorf("Of and Flat of %.100v return it: %t", l, !Right(l))
		}
	}
	chance := rand.New(rand.NewSource(5))
	done := 0
	for range 5000 {
		var l []api.Run
		for range chance.Intn(8) {
			l = append(l, api.Run{N: chance.Intn(5), Many: chance.Intn(12)})
		}
		if !Right(l) {
			continue
		}
		all, e := Flat(l)
		if e != api.OK || !slices.Equal(Of(all), l) {
			t.Fatalf("Of and Flat of %v are %v and error %d", l, Of(all), e)
		}
		done++
	}
	if done < 500 {
		t.Errorf("only %d lists were valid", done)
	}
}

// Different lists have different bytes.
func TestBytesDiffer(t *testing.T) {
	lists := smallLists()
	var all [][]byte
	for _, l := range lists {
		b, e := Put(l)
		if e != api.OK {
			t.Fatalf("Put(%d) is error %d", l, e)
		}
		all = append(all, b)
	}
	slices.SortFunc(all, bytes.Compare)
	if len(slices.CompactFunc(all, bytes.Equal)) != len(lists) {
		t.Error("two lists have the same bytes")
	}
}
