package dict

import (
	"bytes"
	"cmp"
	"math/rand"
	"slices"
	"testing"

	"warp/api"
)

// P10.4: what follows from the other promises.

// The index of a string determines the string, and indices are ordered as their words are.
func TestIndicesAreOrderedAsWords(t *testing.T) {
	chance := rand.New(rand.NewSource(6))
	for range 200 {
		l := someWords(chance, chance.Intn(60))
		words, places, e := Of(l)
		if e != api.OK || !Right(words) || len(places) != len(l) {
			t.Fatalf("Of(%q) is %q, %d and error %d", l, words, places, e)
		}
		for i, s := range l {
			if words[places[i]] != s {
				t.Fatalf("Of(%q): %q has the index of %q", l, s, words[places[i]])
			}
			if place, ok := Find(words, s); place != places[i] || !ok {
				t.Fatalf("Find(%q, %q) is %d, %t", words, s, place, ok)
			}
			for j, other := range l {
				if cmp.Compare(places[i], places[j]) != cmp.Compare(s, other) {
					t.Fatalf("%q and %q are not ordered as %d and %d", s, other, places[i], places[j])
				}
			}
		}
	}
}

func TestTakeUndoesPut(t *testing.T) {
	chance := rand.New(rand.NewSource(7))
	lists := valid()
	for range 300 {
		lists = append(lists, someDict(chance))
	}
	for _, words := range lists {
		b, e := Put(words)
		if e != api.OK {
			t.Fatalf("Put(%.100q) is error %d", words, e)
		}
		mustTake(t, b, words, nil)
		// A second dictionary behind the first one is what is left.
		mustTake(t, append(slices.Clone(b), b...), words, b)
	}
}

// smallDicts is all dictionaries of a few words.
func smallDicts() [][]string {
	few := []string{"", "\x00", "a", "aa", "ab", "b", "\xff"}
	var all [][]string
	for chosen := range 1 << len(few) {
		var words []string
		for i, word := range few {
			if chosen>>i&1 == 1 {
				words = append(words, word)
			}
		}
		all = append(all, words)
	}
	return all
}

// Of the bytes of different dictionaries none begin with the other's.
func TestBytesDiffer(t *testing.T) {
	var all [][]byte
	for _, words := range smallDicts() {
		b, e := Put(words)
		if e != api.OK {
			t.Fatalf("Put(%q) is error %d", words, e)
		}
		all = append(all, b)
	}
	for i, b := range all {
		for j, c := range all {
			if i != j && bytes.HasPrefix(b, c) {
				t.Fatalf("%d begins with %d", b, c)
			}
		}
	}
}

// The words between From and Behind are those that begin with a string.
func TestWordsThatBeginWith(t *testing.T) {
	for _, words := range smallDicts() {
		for _, s := range texts([]string{"", "a", "ab"}) {
			between := words[From(words, s):max(From(words, s), Behind(words, s))]
			for _, word := range words {
				if bytes.HasPrefix([]byte(word), []byte(s)) != slices.Contains(between, word) {
					t.Fatalf("of %q, %q are those that begin with %q", words, between, s)
				}
			}
			if turned, e := Turn(between, words); e != api.OK || len(between) > 0 && turned[0] != From(words, s) {
				t.Fatalf("Turn(%q, %q) is %d and error %d", between, words, turned, e)
			}
		}
	}
}
