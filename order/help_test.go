package order

import (
	"fmt"
	"math"
	"math/rand"
	"slices"
	"strings"
	"testing"

	"warp/api"
)

// What the tests of this package share.

var null = api.Value{}

// num, text and truth are values.
func num(n int) api.Value { return api.Value{Kind: api.Int, N: n} }

func text(s string) api.Value { return api.Value{Kind: api.Text, S: s} }

func truth(n int) api.Value { return api.Value{Kind: api.Bool, N: n} }

// up and down are keys.
func up(col int) api.Key { return api.Key{Col: col} }

func down(col int) api.Key { return api.Key{Col: col, Down: true} }

// some is a list of keys.
func some(keys ...api.Key) []api.Key { return keys }

// ints is rows of one integer each.
func ints(l ...int) []api.Row {
	var rows []api.Row
	for _, n := range l {
		rows = append(rows, api.Row{num(n)})
	}
	return rows
}

// pairs is rows of two integers each.
func pairs(l ...[2]int) []api.Row {
	var rows []api.Row
	for _, p := range l {
		rows = append(rows, api.Row{num(p[0]), num(p[1])})
	}
	return rows
}

// rightValues is valid values in increasing order, beginning with Null.
func rightValues() []api.Value {
	return []api.Value{
		null, truth(0), truth(1),
		num(math.MinInt), num(-256), num(-2), num(-1), num(0), num(1), num(2), num(255), num(256), num(math.MaxInt),
		text(""), text("\x00"), text("a"), text("a\x00"), text("aa"), text("ab"), text("b"), text("z"), text("é"), text("\xff"), text(strings.Repeat("\xff", 1024)),
	}
}

// wrongNulls is values of the Kind Null that are not valid.
func wrongNulls() []api.Value {
	return []api.Value{{N: 1}, {N: -1}, {S: "a"}, {N: math.MinInt, S: "z"}}
}

// wrongValues is other values that are not valid.
func wrongValues() []api.Value {
	return []api.Value{
		{Kind: api.Bool, N: -1}, {Kind: api.Bool, N: 2}, {Kind: api.Bool, S: "a"},
		{Kind: api.Int, S: "a"}, {Kind: api.Int, N: -1, S: "b"},
		{Kind: api.Text, N: -1, S: "b"}, {Kind: api.Text, N: 1}, {Kind: api.Text, S: strings.Repeat("z", 1025)},
		{Kind: 4}, {Kind: 4, N: -1, S: "a"}, {Kind: 255}, {Kind: 255, N: math.MaxInt, S: "\xff"},
	}
}

// allValues is values of every sort.
func allValues() []api.Value {
	return slices.Concat(rightValues(), wrongNulls(), wrongValues())
}

// lists is all lists of so many of the items.
func lists[T any](items []T, many int) [][]T {
	all := [][]T{nil}
	for range many {
		var longer [][]T
		for _, l := range all {
			for _, x := range items {
				longer = append(longer, append(slices.Clone(l), x))
			}
		}
		all = longer
	}
	return all
}

// shortLists is all lists of at most so many of the items.
func shortLists[T any](items []T, many int) [][]T {
	var all [][]T
	for n := range many + 1 {
		all = append(all, lists(items, n)...)
	}
	return all
}

// stands tells how a and b stand to each other, in the words of P15.1.
func stands(a, b api.Row, keys []api.Key) int {
	for _, k := range keys {
		v, w := at(a, k.Col), at(b, k.Col)
		switch {
		case v.Kind == 0 && w.Kind == 0:
			continue
		case v.Kind == 0:
			return -1
		case w.Kind == 0:
			return 1
		case before(v, w):
			return map[bool]int{false: -1, true: 1}[k.Down]
		case before(w, v):
			return map[bool]int{false: 1, true: -1}[k.Down]
		}
	}
	return 0
}

// at is the value of r in a column, if it has one.
func at(r api.Row, col int) api.Value {
	for i, v := range r {
		if i == col {
			return v
		}
	}
	return null
}

// before tells whether v comes before w: by Kind, by N, by S.
func before(v, w api.Value) bool {
	if v.Kind != w.Kind {
		return v.Kind < w.Kind
	}
	if v.N != w.N {
		return v.N < w.N
	}
	return v.S < w.S
}

// ordered is rows in order: each is put behind those that it does not come before.
func ordered(rows []api.Row, keys []api.Key) []api.Row {
	var l []api.Row
	for _, r := range rows {
		i := len(l)
		for i > 0 && stands(r, l[i-1], keys) < 0 {
			i--
		}
		l = slices.Insert(l, i, r)
	}
	return l
}

// inOrder tells whether rows are in order.
func inOrder(rows []api.Row, keys []api.Key) bool {
	for i := 1; i < len(rows); i++ {
		if stands(rows[i-1], rows[i], keys) > 0 {
			return false
		}
	}
	return true
}

// merged is a and b as one, in the words of P15.2.
func merged(a, b []api.Row, keys []api.Key) []api.Row {
	switch {
	case len(a) == 0:
		return slices.Clone(b)
	case len(b) == 0:
		return slices.Clone(a)
	}
	var l []api.Row
	i, j := 0, 0
	for range len(a) + len(b) {
		if j == len(b) || i < len(a) && stands(a[i], b[j], keys) <= 0 {
			l = append(l, a[i])
			i++
		} else {
			l = append(l, b[j])
			j++
		}
	}
	return l
}

// someRow is a row by chance of so many columns at most, of few values, so that rows often are alike.
func someRow(chance *rand.Rand, cols int) api.Row {
	values := []api.Value{null, num(-1), num(0), num(1), text("a"), text("b"), truth(1), {S: "x"}, {Kind: 9}}
	var r api.Row
	for range chance.Intn(cols + 1) {
		r = append(r, values[chance.Intn(len(values))])
	}
	return r
}

// someRows is so many rows by chance.
func someRows(chance *rand.Rand, many, cols int) []api.Row {
	var rows []api.Row
	for range many {
		rows = append(rows, someRow(chance, cols))
	}
	return rows
}

// someKeys is at most four keys by chance, of columns that rows have, or not.
func someKeys(chance *rand.Rand, cols int) []api.Key {
	var keys []api.Key
	for range chance.Intn(5) {
		keys = append(keys, api.Key{Col: chance.Intn(cols+2) - 1, Down: chance.Intn(2) == 0})
	}
	return keys
}

// same tells whether a and b are the same rows, nil and empty ones being the same.
func same(a, b []api.Row) bool {
	return slices.EqualFunc(a, b, func(r, s api.Row) bool { return slices.Equal(r, s) })
}

// deep is rows in memory of their own.
func deep(rows []api.Row) []api.Row {
	var l []api.Row
	for _, r := range rows {
		l = append(l, append(api.Row{}, r...))
	}
	return l
}

// shown is rows as text that is short enough to be told.
func shown(rows []api.Row) string {
	return fmt.Sprintf("%d rows %.300s", len(rows), fmt.Sprint(rows))
}

// mustCompare tells unless a and b stand to each other as wanted, and b and a the other way round.
func mustCompare(t *testing.T, a, b api.Row, keys []api.Key, want int) {
	t.Helper()
	if got := Compare(a, b, keys); got != want {
		t.Fatalf("Compare(%.100v, %.100v, %v) is %d, not %d", a, b, keys, got, want)
	}
	if got := Compare(b, a, keys); got != -want {
		t.Fatalf("Compare(%.100v, %.100v, %v) is %d, not %d", b, a, keys, got, -want)
	}
}

// mustRight tells unless Right answers as wanted.
func mustRight(t *testing.T, cols int, keys []api.Key, want api.Errno) {
	t.Helper()
	if got := Right(cols, keys); got != want {
		t.Fatalf("Right(%d, %v) is %d, not %d", cols, keys, got, want)
	}
}

// mustSort tells unless Sort answers the wanted rows.
func mustSort(t *testing.T, rows []api.Row, keys []api.Key, want []api.Row) {
	t.Helper()
	if got := Sort(rows, keys); !same(got, want) {
		t.Fatalf("Sort(%s, %v) is %s, not %s", shown(rows), keys, shown(got), shown(want))
	}
}

// mustBeSorted tells unless Sorted answers as wanted.
func mustBeSorted(t *testing.T, rows []api.Row, keys []api.Key, want bool) {
	t.Helper()
	if got := Sorted(rows, keys); got != want {
		t.Fatalf("Sorted(%s, %v) is %v", shown(rows), keys, got)
	}
}

// mustMerge tells unless Merge answers the wanted rows.
func mustMerge(t *testing.T, a, b []api.Row, keys []api.Key, want []api.Row) {
	t.Helper()
	if got := Merge(a, b, keys); !same(got, want) {
		t.Fatalf("Merge(%s, %s, %v) is %s, not %s", shown(a), shown(b), keys, shown(got), shown(want))
	}
}
