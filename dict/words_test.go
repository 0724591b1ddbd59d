package dict

import (
	"math/rand"
	"slices"
	"testing"

	"warp/api"
)

// P10.1: Of, Right, Find, From and Behind.

func TestOf(t *testing.T) {
	mustOf(t, nil, nil, nil, api.OK)
	mustOf(t, []string{}, nil, nil, api.OK)
	mustOf(t, []string{"b", "a", "b"}, []string{"a", "b"}, []int{1, 0, 1}, api.OK)
	mustOf(t, []string{""}, []string{""}, []int{0}, api.OK)
	mustOf(t, []string{"", "a", ""}, []string{"", "a"}, []int{0, 1, 0}, api.OK)
	mustOf(t, []string{"a", "a", "a"}, []string{"a"}, []int{0, 0, 0}, api.OK)
	mustOf(t, []string{"c", "b", "a"}, []string{"a", "b", "c"}, []int{2, 1, 0}, api.OK)
	mustOf(t, []string{"ab", "b", "a", "A"}, []string{"A", "a", "ab", "b"}, []int{2, 3, 1, 0}, api.OK)
	mustOf(t, []string{"é", "z", "\xff", "\x00"}, []string{"\x00", "z", "é", "\xff"}, []int{2, 1, 3, 0}, api.OK)
}

func TestOfEdges(t *testing.T) {
	for _, words := range valid() {
		l := slices.Clone(words)
		slices.Reverse(l)
		var places []int
		for i := range l {
			places = append(places, len(l)-1-i)
		}
		mustOf(t, l, words, places, api.OK)
	}
	mustOf(t, slices.Repeat([]string{"a"}, api.MaxRows), []string{"a"}, make([]int, api.MaxRows), api.OK)
	most := slices.Repeat(numbered(api.MaxWords), api.MaxRows/api.MaxWords+1)[:api.MaxRows]
	words, places, e := of(most)
	if e != api.OK || len(words) != api.MaxWords {
		t.Fatal("the test is wrong")
	}
	mustOf(t, most, words, places, e)
}

func TestOfTooMuch(t *testing.T) {
	for _, l := range [][]string{
		{long(api.MaxText + 1)},
		{"a", long(api.MaxText + 1)},
		{long(api.MaxText + 1), "a"},
		{"a", long(api.MaxText + 1), "b"},
		{long(1 << 16)},
		slices.Repeat([]string{"a"}, api.MaxRows+1),
		slices.Repeat([]string{"a", "b"}, api.MaxRows),
		make([]string, 1<<16),
		numbered(api.MaxWords + 1),
		numbered(257),
		numbered(456),
		numbered(api.MaxRows),
		numbered(api.MaxRows + 1),
		append(slices.Repeat(numbered(api.MaxWords), 3), "a"),
		append(slices.Repeat([]string{"a"}, api.MaxRows), long(api.MaxText+1)),
	} {
		mustOf(t, l, nil, nil, api.ErrLong)
	}
}

func TestOfAny(t *testing.T) {
	chance := rand.New(rand.NewSource(1))
	seen := map[api.Errno]int{}
	for range 1500 {
		l := someWords(chance, chance.Intn(1<<chance.Intn(10)))
		words, places, e := of(l)
		mustOf(t, l, words, places, e)
		seen[e]++
	}
	if seen[api.OK] == 0 || seen[api.ErrLong] == 0 {
		t.Errorf("the lists are not of both sorts: %v", seen)
	}
}

func TestRight(t *testing.T) {
	for _, words := range valid() {
		if !Right(words) {
			t.Errorf("Right(%.100q) is false", words)
		}
	}
	for _, words := range wrong() {
		if Right(words) {
			t.Errorf("Right(%.100q) is true", words)
		}
	}
}

// Any two words, and any two at the end of more.
func TestRightOfPairs(t *testing.T) {
	all := texts([]string{"", "a", "ab", "b", "\xff", "é", long(api.MaxText)})
	for _, s := range all {
		for _, u := range all {
			for _, words := range [][]string{{s, u}, {"", s, u}, {s, u, "\xff\xff\xff\xff"}} {
				if Right(words) != right(words) {
					t.Fatalf("Right(%.100q) is %t", words, !right(words))
				}
			}
		}
	}
}

func TestSearch(t *testing.T) {
	words := []string{"a", "b", "c"}
	if From(words, "bb") != 2 {
		t.Errorf("From is %d", From(words, "bb"))
	}
	if place, ok := Find(words, "c"); place != 2 || !ok {
		t.Errorf("Find is %d, %t", place, ok)
	}
	if place, ok := Find(words, "bb"); place != 0 || ok {
		t.Errorf("Find of what is no word is %d, %t", place, ok)
	}
	words = []string{"a", "ab", "b"}
	for s, want := range map[string]int{"": 3, "a": 2, "ab": 2, "aa": 1, "abc": 2, "b": 3, "A": 0, "\xff": 3} {
		if got := Behind(words, s); got != want {
			t.Errorf("Behind(%q) is %d, not %d", s, got, want)
		}
	}
	for s, want := range map[string]int{"": 0, "a": 0, "ab": 1, "aa": 1, "abc": 2, "b": 2, "A": 0, "\xff": 3} {
		if got := From(words, s); got != want {
			t.Errorf("From(%q) is %d, not %d", s, got, want)
		}
	}
}

func TestSearchEach(t *testing.T) {
	for _, words := range valid() {
		for _, s := range texts(words) {
			mustSearch(t, words, s)
		}
	}
	chance := rand.New(rand.NewSource(2))
	for range 300 {
		words := someDict(chance)
		for _, s := range append(texts(words), someWords(chance, 10)...) {
			mustSearch(t, words, s)
		}
	}
}

// In what is no dictionary nothing is found, also if it is there.
func TestSearchOfWrongWords(t *testing.T) {
	for _, words := range wrong() {
		for _, s := range texts(words[:min(len(words), 20)]) {
			mustSearch(t, words, s)
		}
	}
}

// Arguments are neither changed nor kept, nor read beyond their length; answers are memory of their own.
func TestOfOwnsItsResults(t *testing.T) {
	memory := []string{"b", "a", "b", "0"}
	words, places, _ := Of(memory[:3])
	for range 2 {
		again, list, e := Of(memory[:3])
		if e != api.OK || !slices.Equal(again, []string{"a", "b"}) || !slices.Equal(list, []int{1, 0, 1}) {
			t.Fatalf("Of is %q, %d and error %d", again, list, e)
		}
		clear(again[:cap(again)])
		clear(list[:cap(list)])
	}
	if !slices.Equal(memory, []string{"b", "a", "b", "0"}) {
		t.Errorf("Of changed its argument's memory: %q", memory)
	}
	clear(memory)
	if !slices.Equal(words, []string{"a", "b"}) || !slices.Equal(places, []int{1, 0, 1}) {
		t.Errorf("what Of answered became %q, %d", words, places)
	}
	memory = []string{"a", "b", "b"}
	if place, ok := Find(memory[:2], "b"); !Right(memory[:2]) || From(memory[:2], "c") != 2 || Behind(memory[:2], "b") != 2 || place != 1 || !ok {
		t.Error("what lies beyond the length is read")
	}
	sorted := []string{"a", "b", "c"}
	if words, _, _ := Of(sorted); &words[0] == &sorted[0] {
		t.Error("Of answers its argument")
	}
}
