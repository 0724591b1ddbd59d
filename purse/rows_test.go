package purse

import (
	"math"
	"slices"
	"strings"
	"testing"

	"warp/api"
)

// P6.2: the memory that rows count for.

// text is a Text value.
func text(s string) api.Value { return api.Value{Kind: api.Text, S: s} }

// mustCount tells unless r counts want.
func mustCount(t *testing.T, r api.Row, want int) {
	t.Helper()
	if got := Row(r); got != want {
		t.Errorf("Row(%#v) is %d, not %d", r, got, want)
	}
}

// mustCountAll tells unless the rows of l count want together.
func mustCountAll(t *testing.T, l []api.Row, want int) {
	t.Helper()
	if got := Rows(l); got != want {
		t.Errorf("Rows(%#v) is %d, not %d", l, got, want)
	}
}

// The chapter's example.
func TestRowExample(t *testing.T) {
	mustCount(t, api.Row{text("ab"), {}}, 26)
}

func TestRowOfNoValues(t *testing.T) {
	mustCount(t, nil, 8)
	mustCount(t, api.Row{}, 8)
	mustCount(t, make(api.Row, 0, 5), 8)
}

// Each value counts the same, of whichever kind and number it is.
func TestRowOfOneValue(t *testing.T) {
	for _, v := range []api.Value{
		{},
		{Kind: api.Bool},
		{Kind: api.Bool, N: 1},
		{Kind: api.Int},
		{Kind: api.Int, N: -1},
		{Kind: api.Int, N: math.MaxInt},
		{Kind: api.Int, N: math.MinInt},
		{Kind: api.Text},
	} {
		mustCount(t, api.Row{v}, 16)
	}
}

// Texts count by their bytes, not by their characters.
func TestRowOfText(t *testing.T) {
	for s, want := range map[string]int{
		"":                               16,
		"a":                              17,
		"\x00":                           17,
		"\xff\xfe":                       18,
		"é":                              18,
		"日本":                             22,
		strings.Repeat("x", 1000):        1016,
		strings.Repeat("é", 512):         16 + api.MaxText,
		strings.Repeat("x", api.MaxText): 16 + api.MaxText,
	} {
		mustCount(t, api.Row{text(s)}, want)
	}
}

// Values that are not valid count as all others: by the bytes of their S, whatever their Kind is.
func TestRowOfValuesThatAreNotValid(t *testing.T) {
	for kind := range 256 {
		mustCount(t, api.Row{{Kind: uint8(kind)}}, 16)
		mustCount(t, api.Row{{Kind: uint8(kind), N: 77, S: "abc"}}, 19)
	}
	mustCount(t, api.Row{text(strings.Repeat("x", api.MaxText+1))}, 17+api.MaxText)
	mustCount(t, api.Row{text(strings.Repeat("x", 100000))}, 100016)
}

func TestRowOfMoreValues(t *testing.T) {
	var r api.Row
	want := 8
	for n := range 100 {
		mustCount(t, r, want)
		r = append(r, text(strings.Repeat("x", n)))
		want += 8 + n
	}
	mustCount(t, make(api.Row, 1000), 8008)
	mustCount(t, api.Row{text("ab"), text("ab"), text("ab")}, 38)
}

func TestRows(t *testing.T) {
	mustCountAll(t, nil, 0)
	mustCountAll(t, []api.Row{}, 0)
	mustCountAll(t, []api.Row{nil}, 8)
	mustCountAll(t, []api.Row{nil, {}, nil}, 24)
	mustCountAll(t, []api.Row{{{Kind: api.Int, N: 5}}}, 16)
	mustCountAll(t, []api.Row{{text("ab"), {}}, nil, {text("cde")}, {text("ab"), {}}}, 26+8+19+26)
	mustCountAll(t, make([]api.Row, api.MaxRows), 8*api.MaxRows)
}

// Rows is the sum of Row, however the rows are split.
func TestRowsIsTheSum(t *testing.T) {
	var l []api.Row
	sum := 0
	for n := range 60 {
		r := make(api.Row, n%7)
		for i := range r {
			r[i] = text(strings.Repeat("y", n*i%13))
		}
		l = append(l, r)
		sum += Row(r)
		mustCountAll(t, l, sum)
		for i := range l {
			mustCountAll(t, l[i:], sum-Rows(l[:i]))
		}
	}
}

// What lies beyond the length of a slice does not count, and nothing is changed.
func TestRowsLeaveTheArgument(t *testing.T) {
	memory := api.Row{text("ab"), {Kind: api.Int, N: 3}, text("beyond"), {}}
	front := memory[:2]
	mustCount(t, front, 26)
	lists := []api.Row{front, nil, memory}
	mustCountAll(t, lists[:2], 34)
	if !slices.Equal(memory, api.Row{text("ab"), {Kind: api.Int, N: 3}, text("beyond"), {}}) {
		t.Errorf("Row or Rows changed a row: %v", memory)
	}
	if len(lists[0]) != 2 || lists[1] != nil || len(lists[2]) != 4 {
		t.Errorf("Rows changed its list: %v", lists)
	}
}

// A row is held and given back by what it counts.
func TestRowsInAPurse(t *testing.T) {
	l := []api.Row{{text("ab"), {}}, {{Kind: api.Int, N: 5}}}
	p := newPurse(t, 42)
	for _, r := range l {
		mustTake(t, p, Row(r))
	}
	mustHave(t, p, 42, 42, 0)
	mustNotTake(t, p, Row(nil), api.ErrBudget)
	mustGive(t, p, Rows(l))
	mustHave(t, p, 0, 42, 42)
	mustNotTake(t, newPurse(t, 41), Rows(l), api.ErrBudget)
}
