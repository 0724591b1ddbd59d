package dict

import (
	"math/rand"
	"slices"
	"testing"

	"warp/api"
)

// P10.3: Turn.

// turned is what Turn must answer for its two dictionaries.
func turned(from, to []string) []int {
	var places []int
	for _, word := range from {
		places = append(places, slices.Index(to, word))
	}
	return places
}

func TestTurn(t *testing.T) {
	ab, bc := []string{"a", "b"}, []string{"b", "c"}
	mustTurn(t, ab, bc, []int{-1, 0}, api.OK)
	mustTurn(t, bc, ab, []int{1, -1}, api.OK)
	mustTurn(t, ab, ab, []int{0, 1}, api.OK)
	mustTurn(t, ab, nil, []int{-1, -1}, api.OK)
	mustTurn(t, ab, []string{}, []int{-1, -1}, api.OK)
	mustTurn(t, nil, ab, nil, api.OK)
	mustTurn(t, []string{}, ab, nil, api.OK)
	mustTurn(t, nil, nil, nil, api.OK)
	mustTurn(t, []string{"", "ab", "b"}, []string{"", "a", "abc", "b"}, []int{0, -1, 3}, api.OK)
}

func TestTurnOfAny(t *testing.T) {
	for _, from := range valid() {
		for _, to := range valid() {
			mustTurn(t, from, to, turned(from, to), api.OK)
		}
	}
	chance := rand.New(rand.NewSource(5))
	for range 1000 {
		from, to := someDict(chance), someDict(chance)
		mustTurn(t, from, to, turned(from, to), api.OK)
	}
}

func TestTurnOfWrongWords(t *testing.T) {
	for _, words := range wrong() {
		for _, other := range append(wrong()[:3], valid()[:8]...) {
			mustTurn(t, words, other, nil, api.ErrArg)
			mustTurn(t, other, words, nil, api.ErrArg)
		}
		mustTurn(t, words, words, nil, api.ErrArg)
	}
}

// Arguments are neither changed nor kept, nor read beyond their length; answers are memory of their own.
func TestTurnOwnsItsResults(t *testing.T) {
	from, to := []string{"a", "b", "b"}, []string{"b", "c", "a"}
	kept, _ := Turn(from[:2], to[:2])
	for range 2 {
		l, e := Turn(from[:2], to[:2])
		if e != api.OK || !slices.Equal(l, []int{-1, 0}) {
			t.Fatalf("Turn is %d and error %d", l, e)
		}
		clear(l[:cap(l)])
	}
	if !slices.Equal(from, []string{"a", "b", "b"}) || !slices.Equal(to, []string{"b", "c", "a"}) {
		t.Errorf("Turn changed its arguments' memory: %q, %q", from, to)
	}
	clear(from)
	clear(to)
	if !slices.Equal(kept, []int{-1, 0}) {
		t.Errorf("what Turn answered became %d", kept)
	}
}
