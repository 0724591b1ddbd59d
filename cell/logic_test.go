package cell

import (
	"testing"

	"warp/api"
)

// P4.2: what is known of two values, and logic with three truth values.

// Whether values are equal or less is known of all that are not of the Kind Null, valid or not.
func TestEqualAndLess(t *testing.T) {
	for _, a := range allValues() {
		for _, b := range allValues() {
			equal, less := api.No, api.No
			switch {
			case a.Kind == 0 || b.Kind == 0:
				equal, less = api.Unknown, api.Unknown
			case a == b:
				equal = api.Yes
			case Compare(a, b) == -1:
				less = api.Yes
			}
			if got := Equal(a, b); got != equal {
				t.Errorf("Equal of %v and %v is %d, not %d", shown(a), shown(b), got, equal)
			}
			if got := Less(a, b); got != less {
				t.Errorf("Less of %v and %v is %d, not %d", shown(a), shown(b), got, less)
			}
		}
	}
}

func TestEqualAndLessOfSome(t *testing.T) {
	null, no, yes := api.Value{}, api.Value{Kind: api.Bool}, api.Value{Kind: api.Bool, N: 1}
	three, four, text := api.Value{Kind: api.Int, N: 3}, api.Value{Kind: api.Int, N: 4}, api.Value{Kind: api.Text, S: "3"}
	for _, c := range []struct {
		a, b        api.Value
		equal, less uint8
	}{
		{null, null, 1, 1},
		{null, three, 1, 1},
		{three, null, 1, 1},
		{null, api.Value{Kind: 0, N: 5}, 1, 1},
		{api.Value{Kind: 0, N: 5}, three, 1, 1},
		{text, api.Value{Kind: 0, S: "3"}, 1, 1},
		{api.Value{Kind: 9}, null, 1, 1},
		{three, three, 2, 0},
		{three, four, 0, 2},
		{four, three, 0, 0},
		{no, yes, 0, 2},
		{yes, no, 0, 0},
		{yes, three, 0, 2},
		{three, text, 0, 2},
		{text, three, 0, 0},
		{text, text, 2, 0},
		{text, api.Value{Kind: api.Text, S: "30"}, 0, 2},
		{api.Value{Kind: 9, N: 1}, api.Value{Kind: 9, N: 1}, 2, 0},
		{api.Value{Kind: 9, N: 1}, api.Value{Kind: 9, N: 2}, 0, 2},
		{text, api.Value{Kind: 9}, 0, 2},
		{three, api.Value{Kind: api.Int, N: 3, S: "x"}, 0, 2},
	} {
		if Equal(c.a, c.b) != c.equal || Less(c.a, c.b) != c.less {
			t.Errorf("Equal of %v and %v is %d, and Less %d", c.a, c.b, Equal(c.a, c.b), Less(c.a, c.b))
		}
	}
}

// counts is the truth value that a number counts as.
func counts(a int) int {
	if a > 2 {
		return 1
	}
	return a
}

// All numbers are truth values, as arguments; what is answered is one of the three.
func TestAndOrNot(t *testing.T) {
	ands := [3][3]uint8{{0, 0, 0}, {0, 1, 1}, {0, 1, 2}}
	ors := [3][3]uint8{{0, 1, 2}, {1, 1, 2}, {2, 2, 2}}
	nots := [3]uint8{2, 1, 0}
	for a := range 256 {
		if got := Not(uint8(a)); got != nots[counts(a)] {
			t.Errorf("Not of %d is %d", a, got)
		}
		for b := range 256 {
			if got := And(uint8(a), uint8(b)); got != ands[counts(a)][counts(b)] {
				t.Errorf("And of %d and %d is %d", a, b, got)
			}
			if got := Or(uint8(a), uint8(b)); got != ors[counts(a)][counts(b)] {
				t.Errorf("Or of %d and %d is %d", a, b, got)
			}
		}
	}
}

// The examples of the chapter.
func TestLogicExamples(t *testing.T) {
	if Compare(api.Value{}, api.Value{Kind: api.Int, N: 0}) != -1 {
		t.Error("Null does not come before 0")
	}
	if Equal(api.Value{}, api.Value{}) != api.Unknown {
		t.Error("it is known whether Null is Null")
	}
	if And(api.No, api.Unknown) != api.No || Or(api.No, api.Unknown) != api.Unknown {
		t.Error("And or Or of No and Unknown")
	}
}
