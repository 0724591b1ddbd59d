package zone

import (
	"cmp"
	"math"
	"math/rand"
	"slices"
	"strings"
	"testing"

	"warp/api"
)

// What the tests of this package share.

var (
	kinds  = []uint8{api.Bool, api.Int, api.Text}
	truths = []uint8{api.No, api.Unknown, api.Yes}
	null   = api.Value{}
	empty  = api.Zone{}
)

// num, text and truth are values.
func num(n int) api.Value { return api.Value{Kind: api.Int, N: n} }

func text(s string) api.Value { return api.Value{Kind: api.Text, S: s} }

func truth(n int) api.Value { return api.Value{Kind: api.Bool, N: n} }

// longest is a text of as many bytes as a text may have.
func longest() string { return strings.Repeat("x", 1024) }

// some is valid values of a kind, each greater than the one before.
func some(kind uint8) []api.Value {
	switch kind {
	case api.Bool:
		return []api.Value{truth(0), truth(1)}
	case api.Int:
		return []api.Value{num(math.MinInt), num(-125), num(-1), num(0), num(3), num(124), num(math.MaxInt)}
	}
	return []api.Value{text(""), text("\x00"), text("a"), text("ab"), text("b"), text(longest()), text("\xff")}
}

// few is a few valid values of a kind, each greater than the one before.
func few(kind uint8) []api.Value {
	switch kind {
	case api.Bool:
		return []api.Value{truth(0), truth(1)}
	case api.Int:
		return []api.Value{num(-1), num(0), num(3)}
	}
	return []api.Value{text(""), text("a"), text("ab")}
}

// wrongValues is values that are not valid.
func wrongValues() []api.Value {
	return []api.Value{
		{Kind: api.Null, N: 1}, {Kind: api.Null, N: -1}, {Kind: api.Null, S: "a"},
		{Kind: api.Bool, N: 2}, {Kind: api.Bool, N: -1}, {Kind: api.Bool, S: "a"},
		{Kind: api.Int, S: "a"}, {Kind: api.Int, N: 3, S: "3"},
		{Kind: api.Text, N: 1}, {Kind: api.Text, N: -1, S: "a"}, {Kind: api.Text, S: longest() + "x"},
		{Kind: 4}, {Kind: 4, N: 1, S: "a"}, {Kind: 255}, {Kind: 255, N: -1}, {Kind: 255, S: "a"},
	}
}

// allValues is Null, valid values of each kind, and values that are not valid.
func allValues() []api.Value {
	return slices.Concat([]api.Value{null}, some(api.Bool), some(api.Int), some(api.Text), wrongValues())
}

// smallLists is all lists of at most many of those values.
func smallLists(values []api.Value, many int) [][]api.Value {
	all := [][]api.Value{nil}
	for from := 0; many > 0; many-- {
		to := len(all)
		for _, l := range all[from:to] {
			for _, v := range values {
				all = append(all, append(slices.Clone(l), v))
			}
		}
		from = to
	}
	return all
}

// someList is so many of those values by chance. The source of chance begins with a fixed number, so that each run is the same.
func someList(chance *rand.Rand, values []api.Value, many int) []api.Value {
	var l []api.Value
	for range many {
		l = append(l, values[chance.Intn(len(values))])
	}
	return l
}

// before tells how a and b are ordered: by Kind, by N, by S.
func before(a, b api.Value) int {
	if a.Kind != b.Kind {
		return cmp.Compare(a.Kind, b.Kind)
	}
	if a.N != b.N {
		return cmp.Compare(a.N, b.N)
	}
	return cmp.Compare(a.S, b.S)
}

// zoneOf is what Of must answer: the ends of the sorted values that are not Null.
func zoneOf(l []api.Value) api.Zone {
	var there []api.Value
	for _, v := range l {
		if v.Kind != 0 {
			there = append(there, v)
		}
	}
	z := api.Zone{Nulls: len(l) - len(there), Many: len(l)}
	if len(there) > 0 {
		slices.SortFunc(there, before)
		z.Least, z.Most = there[0], there[len(there)-1]
	}
	return z
}

// right is what Right must answer, in the words of P13.1.
func right(kind uint8, z api.Zone) bool {
	if !slices.Contains(kinds, kind) || z.Many < 0 || z.Many > 4096 || z.Nulls < 0 || z.Nulls > z.Many {
		return false
	}
	if z.Nulls == z.Many {
		return z.Least == null && z.Most == null
	}
	for _, v := range []api.Value{z.Least, z.Most} {
		if v.Kind != kind || !valid(v) {
			return false
		}
	}
	if z.Many == z.Nulls+1 && z.Least != z.Most {
		return false
	}
	return before(z.Least, z.Most) <= 0
}

// valid tells whether v is a value that may be.
func valid(v api.Value) bool {
	switch v.Kind {
	case 0:
		return v.N == 0 && v.S == ""
	case 1:
		return (v.N == 0 || v.N == 1) && v.S == ""
	case 2:
		return v.S == ""
	case 3:
		return v.N == 0 && len(v.S) <= 1024
	}
	return false
}

// shown is v with a text that is short enough to be told.
func shown(v api.Value) api.Value {
	if len(v.S) > 20 {
		v.S = v.S[:17] + "..."
	}
	return v
}

// shownZone is z with texts that are short enough to be told.
func shownZone(z api.Zone) api.Zone {
	z.Least, z.Most = shown(z.Least), shown(z.Most)
	return z
}

// shownList is the beginning of l, with texts that are short enough to be told.
func shownList(l []api.Value) []api.Value {
	var out []api.Value
	for _, v := range l[:min(len(l), 10)] {
		out = append(out, shown(v))
	}
	return out
}

// mustBe tells unless got, which was asked of what, is want.
func mustBe[T comparable](t *testing.T, got, want T, what ...any) {
	t.Helper()
	if got != want {
		t.Fatalf("%v: %v, not %v", what, got, want)
	}
}
