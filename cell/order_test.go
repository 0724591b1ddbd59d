package cell

import (
	"cmp"
	"math"
	"strings"
	"testing"

	"warp/api"
)

// P4.1: which values are valid, and how values are ordered.

// longest is a text of as many bytes as a text may have.
func longest() string { return strings.Repeat("x", api.MaxText) }

// validValues is valid values, each greater than the one before.
func validValues() []api.Value {
	return []api.Value{
		{},
		{Kind: api.Bool, N: 0},
		{Kind: api.Bool, N: 1},
		{Kind: api.Int, N: math.MinInt},
		{Kind: api.Int, N: math.MinInt + 1},
		{Kind: api.Int, N: -1 << 32},
		{Kind: api.Int, N: -125},
		{Kind: api.Int, N: -124},
		{Kind: api.Int, N: -2},
		{Kind: api.Int, N: -1},
		{Kind: api.Int, N: 0},
		{Kind: api.Int, N: 1},
		{Kind: api.Int, N: 2},
		{Kind: api.Int, N: 123},
		{Kind: api.Int, N: 124},
		{Kind: api.Int, N: 1 << 32},
		{Kind: api.Int, N: math.MaxInt - 1},
		{Kind: api.Int, N: math.MaxInt},
		{Kind: api.Text, S: ""},
		{Kind: api.Text, S: "\x00"},
		{Kind: api.Text, S: "\x00\x00"},
		{Kind: api.Text, S: "\x00a"},
		{Kind: api.Text, S: "0"},
		{Kind: api.Text, S: "A"},
		{Kind: api.Text, S: "a"},
		{Kind: api.Text, S: "a\x00"},
		{Kind: api.Text, S: "aa"},
		{Kind: api.Text, S: "ab"},
		{Kind: api.Text, S: "b"},
		{Kind: api.Text, S: "nil"},
		{Kind: api.Text, S: longest()[1:]},
		{Kind: api.Text, S: longest()},
		{Kind: api.Text, S: longest()[1:] + "y"},
		{Kind: api.Text, S: "é"},
		{Kind: api.Text, S: "\xff"},
		{Kind: api.Text, S: "\xff\xfe"},
	}
}

// wrongValues is values that are not valid, each greater than the one before.
func wrongValues() []api.Value {
	return []api.Value{
		{Kind: api.Null, N: math.MinInt},
		{Kind: api.Null, N: -1},
		{Kind: api.Null, S: "\x00"},
		{Kind: api.Null, S: "a"},
		{Kind: api.Null, S: longest() + "x"},
		{Kind: api.Null, N: 1},
		{Kind: api.Null, N: 1, S: "a"},
		{Kind: api.Null, N: math.MaxInt},
		{Kind: api.Bool, N: math.MinInt},
		{Kind: api.Bool, N: -1},
		{Kind: api.Bool, N: 0, S: "a"},
		{Kind: api.Bool, N: 1, S: "\x00"},
		{Kind: api.Bool, N: 1, S: "true"},
		{Kind: api.Bool, N: 2},
		{Kind: api.Bool, N: 256},
		{Kind: api.Bool, N: 257},
		{Kind: api.Bool, N: math.MaxInt},
		{Kind: api.Int, N: -1, S: "\x00"},
		{Kind: api.Int, N: 0, S: "0"},
		{Kind: api.Int, N: 0, S: longest()},
		{Kind: api.Int, N: 7, S: "7"},
		{Kind: api.Text, N: math.MinInt, S: "a"},
		{Kind: api.Text, N: -1},
		{Kind: api.Text, N: -1, S: "a"},
		{Kind: api.Text, S: longest() + "\x00"},
		{Kind: api.Text, S: longest() + "x"},
		{Kind: api.Text, S: longest() + longest()},
		{Kind: api.Text, N: 1},
		{Kind: api.Text, N: 1, S: "a"},
		{Kind: api.Text, N: math.MaxInt},
		{Kind: 4},
		{Kind: 4, N: 1},
		{Kind: 4, N: 1, S: "a"},
		{Kind: 5},
		{Kind: 128},
		{Kind: 248},
		{Kind: 254},
		{Kind: 255, N: math.MinInt},
		{Kind: 255},
		{Kind: 255, S: "a"},
		{Kind: 255, S: "b"},
		{Kind: 255, N: math.MaxInt, S: "a"},
	}
}

// allValues is valid values and others.
func allValues() []api.Value {
	return append(validValues(), wrongValues()...)
}

// shown is v with a text that is short enough to be told.
func shown(v api.Value) api.Value {
	if len(v.S) > 20 {
		v.S = v.S[:17] + "..."
	}
	return v
}

func TestRight(t *testing.T) {
	for _, v := range validValues() {
		if !Right(v) {
			t.Errorf("%v is not valid", shown(v))
		}
	}
	for _, v := range wrongValues() {
		if Right(v) {
			t.Errorf("%v is valid", shown(v))
		}
	}
}

// All kinds, with all combinations of what is and what is not in a value.
func TestRightByKinds(t *testing.T) {
	for kind := range 256 {
		for _, n := range []int{math.MinInt, -1, 0, 1, 2, 3, math.MaxInt} {
			for _, s := range []string{"", "\x00", "a", longest(), longest() + "x"} {
				v := api.Value{Kind: uint8(kind), N: n, S: s}
				var want bool
				switch kind {
				case 0:
					want = n == 0 && s == ""
				case 1:
					want = n >= 0 && n <= 1 && s == ""
				case 2:
					want = s == ""
				case 3:
					want = n == 0 && len(s) <= 1024
				}
				if Right(v) != want {
					t.Errorf("Right of %v is %t", shown(v), !want)
				}
			}
		}
	}
}

// mustBeInOrder tells unless Compare has l, in which each is greater than the one before, in that order.
func mustBeInOrder(t *testing.T, l []api.Value) {
	t.Helper()
	for i, a := range l {
		for j, b := range l {
			if got := Compare(a, b); got != cmp.Compare(i, j) {
				t.Errorf("Compare of %v and %v is %d", shown(a), shown(b), got)
			}
		}
	}
}

func TestCompareValid(t *testing.T) {
	mustBeInOrder(t, validValues())
}

func TestCompareWrong(t *testing.T) {
	mustBeInOrder(t, wrongValues())
}

// The Kind goes before N, and N before S, whatever stands behind; a value that is not valid has its place among those that are.
func TestCompareParts(t *testing.T) {
	mustBeInOrder(t, []api.Value{
		{Kind: 0, N: -5, S: "z"},
		{},
		{Kind: 0, N: 0, S: "a"},
		{Kind: 0, N: 9, S: "z"},
		{Kind: 1, N: -9, S: "b"},
		{Kind: 1, N: 0},
		{Kind: 1, N: 0, S: "z"},
		{Kind: 1, N: 1},
		{Kind: 1, N: 1, S: "a"},
		{Kind: 1, N: 2},
		{Kind: 2, N: -7},
		{Kind: 2, N: -7, S: "q"},
		{Kind: 2, N: -6},
		{Kind: 3, N: -1, S: "z"},
		{Kind: 3, N: 0, S: "a"},
		{Kind: 3, N: 0, S: longest() + "x"},
		{Kind: 3, N: 1, S: ""},
		{Kind: 4, N: -1, S: "a"},
		{Kind: 127, N: -1},
		{Kind: 128, N: -1},
		{Kind: 255, N: -1},
	})
}

// Texts are compared by their bytes alone: a byte above 127 comes after each below, and no character is known.
func TestCompareTexts(t *testing.T) {
	var last api.Value
	for c := range 256 {
		v := api.Value{Kind: api.Text, S: string([]byte{byte(c)})}
		if c > 0 && (Compare(last, v) != -1 || Compare(v, last) != 1) {
			t.Errorf("%v and %v are not in order", last, v)
		}
		last = v
	}
	if Compare(api.Value{Kind: api.Text, S: "\xff"}, api.Value{Kind: api.Text, S: "\ufffd"}) != 1 {
		t.Error("a byte without an encoding counts as the character that replaces it")
	}
}
