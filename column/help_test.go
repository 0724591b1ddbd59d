package column

import (
	"bytes"
	"fmt"
	"math"
	"math/rand"
	"slices"
	"strings"
	"testing"

	"warp/api"
	"warp/delta"
	"warp/dict"
	"warp/octets"
	"warp/pack"
	"warp/runs"
)

// What the tests of this package share.

var (
	kinds     = []uint8{api.Bool, api.Int, api.Text}
	encodings = []uint8{api.Plain, api.Runs, api.Dict, api.Frame, api.Delta}
	null      = api.Value{}
)

// truths is Bool values; -1 stands for Null.
func truths(l ...int) []api.Value {
	var out []api.Value
	for _, n := range l {
		if n < 0 {
			out = append(out, null)
			continue
		}
		out = append(out, api.Value{Kind: api.Bool, N: n})
	}
	return out
}

// ints is Int values.
func ints(l ...int) []api.Value {
	var out []api.Value
	for _, n := range l {
		out = append(out, api.Value{Kind: api.Int, N: n})
	}
	return out
}

// strs is Text values.
func strs(l ...string) []api.Value {
	var out []api.Value
	for _, s := range l {
		out = append(out, api.Value{Kind: api.Text, S: s})
	}
	return out
}

// withNull is l with a Null put in behind each value that stands at one of those places.
func withNull(l []api.Value, places ...int) []api.Value {
	var out []api.Value
	for i, v := range l {
		out = append(out, v)
		if slices.Contains(places, i) {
			out = append(out, null)
		}
	}
	return out
}

// numbered is Text values of so many different texts, in no order.
func numbered(many int) []api.Value {
	var out []api.Value
	for i := range many {
		i = i * 7 % many
		out = append(out, api.Value{Kind: api.Text, S: string([]byte{'w', byte(i >> 8), byte(i)})})
	}
	return out
}

// long is a text of so many bytes.
func long(many int) string {
	return strings.Repeat("x", many)
}

// lists is columns of a kind, among them those at the edges.
func lists(kind uint8) [][]api.Value {
	nulls := func(many int) []api.Value { return make([]api.Value, many) }
	all := [][]api.Value{nil, {}, nulls(1), nulls(2), nulls(247), nulls(4095), nulls(4096)}
	switch kind {
	case api.Bool:
		all = append(all, truths(0), truths(1), truths(0, 1), truths(1, 0), truths(1, 1, 1), truths(-1, 0, -1), truths(1, -1), truths(-1, -1, 0, 1),
			slices.Repeat(truths(1), 4096), slices.Repeat(truths(0, 1), 2048), slices.Repeat(truths(-1, 1), 2048), slices.Repeat(truths(1, -1, 0, -1), 40))
	case api.Int:
		all = append(all, ints(0), ints(-1), ints(5, 7, 6), ints(7, 7), ints(3, 3, 3, 9), withNull(ints(5, 5), 0), withNull(ints(1, 2, 3), 0, 1, 2),
			ints(math.MaxInt), ints(math.MinInt), ints(math.MinInt, math.MaxInt), ints(math.MaxInt, -1), ints(math.MinInt, -1), withNull(ints(math.MinInt, 0), 0),
			ints(1000000, 1000001, 1000002), slices.Repeat(ints(123456), 300), slices.Repeat(ints(3), 4096), slices.Repeat(ints(math.MinInt, -1), 2048), slices.Repeat(withNull(ints(9), 0), 2048))
	case api.Text:
		all = append(all, strs(""), strs("", ""), strs("a"), strs("b", "a", "b"), strs("ab", "abc"), strs("\x00", "\xff", "é"), withNull(strs("b", "", "b"), 0, 2), append(nulls(2), strs("")...),
			strs(long(247), long(248)), strs(long(1024)), strs(long(1023), long(1024), long(1023)), slices.Repeat(strs("word", "w"), 2048), slices.Repeat(withNull(strs("", "x"), 1), 1000),
			numbered(199), numbered(200), numbered(201), slices.Repeat(numbered(200), 20), append(slices.Repeat(numbered(200), 20), strs("z")...), numbered(4096), withNull(numbered(200), 3, 5))
	}
	return all
}

// someList is so many values of a kind or Null by chance.
func someList(chance *rand.Rand, kind uint8, many int) []api.Value {
	few := []int{0, 1, 2, 5, -1, 300, math.MaxInt, math.MinInt, 1 << 40, 1<<40 + 1}
	letters := []string{"a", "b", "ab", "", "\xff", "é"}
	wide, nulls := 1+chance.Intn(len(few)), chance.Intn(3)
	var l []api.Value
	for range many {
		v := api.Value{Kind: kind}
		switch kind {
		case api.Bool:
			v.N = chance.Intn(2)
		case api.Int:
			v.N = few[chance.Intn(wide)]
		case api.Text:
			v.S = letters[chance.Intn(len(letters))] + letters[chance.Intn(1+wide/2)]
		}
		if chance.Intn(4) < nulls {
			v = null
		}
		if len(l) > 0 && chance.Intn(3) == 0 {
			v = l[len(l)-1]
		}
		l = append(l, v)
	}
	return l
}

// encoded is bytes in the form of those that Put answers, for any integers that tell what is there, and any data.
func encoded(how uint8, there []int, data ...byte) []byte {
	presence, _ := runs.Put(there)
	return slices.Concat([]byte{how}, octets.Num(nil, uint64(len(presence))), presence, data)
}

// parts is what a column is made of: for each value whether it is there, and the N and the S of those that are.
func parts(l []api.Value) (there, numbers []int, texts []string) {
	for _, v := range l {
		if v == null {
			there = append(there, 0)
			continue
		}
		there, numbers, texts = append(there, 1), append(numbers, v.N), append(texts, v.S)
	}
	return there, numbers, texts
}

// plain is the data of a column's values one by one.
func plain(kind uint8, numbers []int, texts []string) []byte {
	var b []byte
	for i := range numbers {
		if kind == api.Text {
			b = append(b, octets.Text(nil, texts[i])...)
		} else {
			b = append(b, octets.Int(nil, numbers[i])...)
		}
	}
	return b
}

// put is what Put must answer for a column.
func put(kind uint8, l []api.Value, how uint8) ([]byte, uint8) {
	there, numbers, texts := parts(l)
	data, e := []byte(nil), api.ErrArg
	switch {
	case how == api.Dict && kind == api.Text:
		var words []string
		var places []int
		if words, places, e = dict.Of(texts); e == api.OK {
			b, _ := dict.Put(words)
			framed, _ := pack.Frame(places)
			data = slices.Concat(b, framed)
		}
	case how == api.Runs && kind != api.Text:
		data, e = runs.Put(numbers)
	case how == api.Frame && kind != api.Text:
		data, e = pack.Frame(numbers)
	case how == api.Delta && kind != api.Text:
		data, e = delta.Put(numbers)
	}
	if e != api.OK {
		data, how = plain(kind, numbers, texts), api.Plain
	}
	return encoded(how, there, data...), how
}

// taken is what Take must answer for bytes and the kind of a column, and whether there is such a column. It asks of each part of the bytes what Put would write there.
func taken(kind uint8, b []byte) ([]api.Value, uint8, bool) {
	if len(b) == 0 {
		return nil, 0, false
	}
	r := octets.New(b[1:])
	size := r.Num()
	if r.Bad() || size > uint64(r.Left()) {
		return nil, 0, false
	}
	rest := b[len(b)-r.Left():]
	there, e := runs.Take(rest[:size])
	some, ok := takenSome(kind, b[0], rest[size:])
	if e != api.OK || !ok {
		return nil, 0, false
	}
	l := []api.Value{}
	for _, n := range there {
		if n < 0 || n > 1 || n > len(some) {
			return nil, 0, false
		}
		if n == 0 {
			l = append(l, null)
		} else {
			l, some = append(l, some[0]), some[1:]
		}
	}
	return l, b[0], len(some) == 0
}

// takenSome is the values of a kind that data tells so encoded, and whether there are such values.
func takenSome(kind, how uint8, data []byte) ([]api.Value, bool) {
	if kind == api.Text {
		l, ok := takenTexts(how, data)
		return strs(l...), ok
	}
	var l []int
	e := api.ErrCorrupt
	switch how {
	case api.Plain:
		r := octets.New(data)
		for !r.Bad() && r.Left() > 0 {
			l = append(l, r.Int())
		}
		e = r.End()
	case api.Runs:
		l, e = runs.Take(data)
	case api.Frame:
		l, e = pack.Unframe(data)
	case api.Delta:
		l, e = delta.Take(data)
	}
	if kind == api.Int {
		return ints(l...), e == api.OK
	}
	wrong := func(n int) bool { return n != 0 && n != 1 }
	return truths(l...), e == api.OK && !slices.ContainsFunc(l, wrong)
}

// takenTexts is the texts that data tells so encoded, and whether there are such texts.
func takenTexts(how uint8, data []byte) ([]string, bool) {
	var l []string
	switch how {
	case api.Plain:
		r := octets.New(data)
		for !r.Bad() && r.Left() > 0 {
			l = append(l, r.Text())
		}
		return l, r.End() == api.OK
	case api.Dict:
		words, rest, e := dict.Take(data)
		if e != api.OK {
			return nil, false
		}
		places, e := pack.Unframe(rest)
		for i := range words {
			if !slices.Contains(places, i) {
				return nil, false // a word of no text
			}
		}
		for _, place := range places {
			if place < 0 || place >= len(words) {
				return nil, false // a text of no word
			}
			l = append(l, words[place])
		}
		return l, e == api.OK
	}
	return nil, false
}

// show is x as a test tells it: no more than its beginning.
func show(x any) string {
	s := fmt.Sprint(x)
	return s[:min(len(s), 300)]
}

// mustPut tells unless Put answers those bytes and that encoding.
func mustPut(t *testing.T, kind uint8, l []api.Value, how uint8, want []byte, used uint8) {
	t.Helper()
	if b, got, e := Put(kind, l, how); e != api.OK || got != used || !bytes.Equal(b, want) {
		t.Fatalf("Put(%d, %s, %d) is %s, encoding %d and error %d, not %s and encoding %d", kind, show(l), how, show(b), got, e, show(want), used)
	}
}

// mustNotPut tells unless Put answers that error, and nothing else.
func mustNotPut(t *testing.T, kind uint8, l []api.Value, how uint8, want api.Errno) {
	t.Helper()
	if b, used, e := Put(kind, l, how); e != want || used != 0 || len(b) != 0 {
		t.Fatalf("Put(%d, %s, %d) is %s, encoding %d and error %d, not error %d", kind, show(l), how, show(b), used, e, want)
	}
}

// mustTake tells unless Take answers those values and that encoding.
func mustTake(t *testing.T, kind uint8, b []byte, l []api.Value, how uint8) {
	t.Helper()
	if got, gotHow, e := Take(kind, b); e != api.OK || gotHow != how || !slices.Equal(got, l) {
		t.Fatalf("Take(%d, %s) is %s, encoding %d and error %d, not %s and encoding %d", kind, show(b), show(got), gotHow, e, show(l), how)
	}
}

// mustNotTake tells unless Take answers for b and the kind of a column that there is no such column.
func mustNotTake(t *testing.T, kind uint8, b []byte) {
	t.Helper()
	if l, how, e := Take(kind, b); e != api.ErrCorrupt || how != 0 || len(l) != 0 {
		t.Fatalf("Take(%d, %s) is %s, encoding %d and error %d", kind, show(b), show(l), how, e)
	}
}

// mustTakeAs tells unless Take answers as the parts of b tell, and tells whether they tell a column.
func mustTakeAs(t *testing.T, kind uint8, b []byte) bool {
	t.Helper()
	l, how, ok := taken(kind, b)
	if ok {
		mustTake(t, kind, b, l, how)
		mustPut(t, kind, l, how, b, how)
	} else {
		mustNotTake(t, kind, b)
	}
	return ok
}

// mustWords tells unless Words answers those for b.
func mustWords(t *testing.T, b []byte, want []string, wantOk bool) {
	t.Helper()
	if words, ok := Words(b); ok != wantOk || !slices.Equal(words, want) {
		t.Fatalf("Words(%s) is %s, %t, not %s, %t", show(b), show(words), ok, show(want), wantOk)
	}
}

// mustBest tells unless Best answers those.
func mustBest(t *testing.T, kind uint8, l []api.Value, want uint8, wantE api.Errno) {
	t.Helper()
	if how, e := Best(kind, l); how != want || e != wantE {
		t.Fatalf("Best(%d, %s) is %d and error %d, not %d and error %d", kind, show(l), how, e, want, wantE)
	}
}
