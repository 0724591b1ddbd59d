package column

import (
	"bytes"
	"math"
	"math/rand"
	"slices"
	"testing"

	"warp/api"
)

// P12.1: Put.

func TestPutOfNumbers(t *testing.T) {
	fives := []byte{7, 3, 2, 1, 0, 1, 2, 1} // the presence of a value, a Null and a value
	for _, c := range []struct {
		kind uint8
		l    []api.Value
		how  uint8
		want []byte
	}{
		{api.Int, withNull(ints(5, 5), 0), api.Plain, slices.Concat([]byte{1}, fives, []byte{10, 10})},
		{api.Int, withNull(ints(5, 5), 0), api.Runs, []byte{2, 7, 3, 2, 1, 0, 1, 2, 1, 1, 10, 2}},
		{api.Int, withNull(ints(5, 5), 0), api.Frame, slices.Concat([]byte{4}, fives, []byte{2, 10, 0})},
		{api.Int, withNull(ints(5, 5), 0), api.Delta, slices.Concat([]byte{5}, fives, []byte{2, 10, 0})},
		{api.Int, ints(5, 7, 6), api.Plain, []byte{1, 3, 1, 2, 3, 10, 14, 12}},
		{api.Int, ints(5, 7, 6), api.Runs, []byte{2, 3, 1, 2, 3, 3, 10, 1, 14, 1, 12, 1}},
		{api.Int, ints(5, 7, 6), api.Frame, []byte{4, 3, 1, 2, 3, 3, 10, 2, 24}},
		{api.Int, ints(5, 7, 6), api.Delta, []byte{5, 3, 1, 2, 3, 3, 10, 4, 1}},
		{api.Int, ints(-1), api.Plain, []byte{1, 3, 1, 2, 1, 1}},
		{api.Int, ints(124), api.Plain, []byte{1, 3, 1, 2, 1, 248, 248}},
		{api.Bool, truths(1, 0, 1), api.Plain, []byte{1, 3, 1, 2, 3, 2, 0, 2}},
		{api.Bool, truths(1, 0, 1), api.Runs, []byte{2, 3, 1, 2, 3, 3, 2, 1, 0, 1, 2, 1}},
		{api.Bool, truths(1, 0, 1), api.Frame, []byte{4, 3, 1, 2, 3, 3, 0, 1, 5}},
		{api.Bool, truths(1, 0, 1), api.Delta, []byte{5, 3, 1, 2, 3, 3, 2, 1, 2}},
		{api.Bool, truths(-1, 1, -1), api.Plain, []byte{1, 7, 3, 0, 1, 2, 1, 0, 1, 2}},
	} {
		mustPut(t, c.kind, c.l, c.how, c.want, c.how)
		mustTake(t, c.kind, c.want, c.l, c.how)
	}
}

func TestPutOfTexts(t *testing.T) {
	for _, c := range []struct {
		l    []api.Value
		how  uint8
		want []byte
	}{
		{strs("b", "a", "b"), api.Plain, []byte{1, 3, 1, 2, 3, 1, 98, 1, 97, 1, 98}},
		{strs("b", "a", "b"), api.Dict, []byte{3, 3, 1, 2, 3, 2, 0, 1, 97, 0, 1, 98, 3, 0, 1, 5}},
		{withNull(strs("abc", "ab"), 0), api.Dict, []byte{3, 7, 3, 2, 1, 0, 1, 2, 1, 2, 0, 2, 97, 98, 2, 1, 99, 2, 0, 1, 1}},
		{withNull(strs("abc", "ab"), 1), api.Plain, []byte{1, 5, 2, 2, 2, 0, 1, 3, 97, 98, 99, 2, 97, 98}},
		{strs(""), api.Plain, []byte{1, 3, 1, 2, 1, 0}},
		{strs(""), api.Dict, []byte{3, 3, 1, 2, 1, 1, 0, 0, 1, 0, 0}},
		{strs("\xff\x00"), api.Plain, []byte{1, 3, 1, 2, 1, 2, 255, 0}},
	} {
		mustPut(t, api.Text, c.l, c.how, c.want, c.how)
		mustTake(t, api.Text, c.want, c.l, c.how)
	}
}

// Of no values there is a presence list of no runs, and so of Nulls no data but the lengths in them.
func TestPutOfNothing(t *testing.T) {
	none := map[uint8][]byte{api.Plain: {}, api.Runs: {0}, api.Dict: {0, 0}, api.Frame: {0}, api.Delta: {0}}
	for _, kind := range kinds {
		for _, how := range encodings {
			used := how
			if (kind == api.Text) != (how == api.Dict) {
				used = api.Plain
			}
			mustPut(t, kind, nil, how, append([]byte{used, 1, 0}, none[used]...), used)
			mustPut(t, kind, []api.Value{}, how, append([]byte{used, 1, 0}, none[used]...), used)
			mustPut(t, kind, []api.Value{null}, how, append([]byte{used, 3, 1, 0, 1}, none[used]...), used)
			mustPut(t, kind, make([]api.Value, 4096), how, append([]byte{used, 5, 1, 0, 249, 16, 0}, none[used]...), used)
		}
	}
}

// Where what is asked for can't be used, Plain is.
func TestPutFallsBackToPlain(t *testing.T) {
	plainAB := []byte{1, 3, 1, 2, 2, 1, 97, 1, 98}
	for _, how := range []uint8{api.Runs, api.Frame, api.Delta} {
		mustPut(t, api.Text, strs("a", "b"), how, plainAB, api.Plain)
	}
	mustPut(t, api.Int, ints(3), api.Dict, []byte{1, 3, 1, 2, 1, 6}, api.Plain)
	mustPut(t, api.Bool, truths(1), api.Dict, []byte{1, 3, 1, 2, 1, 2}, api.Plain)
	for _, c := range []struct {
		l    []api.Value
		used uint8
	}{
		{numbered(200), api.Dict},
		{slices.Repeat(numbered(200), 20), api.Dict},
		{withNull(numbered(200), 0, 7), api.Dict}, // Null is no word
		{numbered(201), api.Plain},
		{append(slices.Repeat(numbered(200), 20), strs("")...), api.Plain},
		{numbered(4096), api.Plain},
	} {
		want, _ := put(api.Text, c.l, c.used)
		mustPut(t, api.Text, c.l, api.Dict, want, c.used)
	}
	for _, c := range []struct {
		l    []api.Value
		used uint8
	}{
		{ints(math.MinInt, -1), api.Delta},
		{ints(math.MaxInt, -1), api.Delta},
		{ints(math.MinInt, 0), api.Plain},
		{ints(math.MaxInt, -2), api.Plain},
		{ints(math.MinInt, math.MaxInt), api.Plain},
		{ints(5, 6, 7, math.MinInt), api.Plain},
		{withNull(ints(math.MinInt, 0), 0), api.Plain}, // a Null is no step
		{withNull(ints(math.MinInt, -1), 0), api.Delta},
	} {
		want, _ := put(api.Int, c.l, c.used)
		mustPut(t, api.Int, c.l, api.Delta, want, c.used)
		mustPut(t, api.Int, c.l, api.Frame, encodedAs(t, c.l, api.Frame), api.Frame)
		mustPut(t, api.Int, c.l, api.Runs, encodedAs(t, c.l, api.Runs), api.Runs)
	}
}

// encodedAs is the bytes of Int values in an encoding that is used for them.
func encodedAs(t *testing.T, l []api.Value, how uint8) []byte {
	t.Helper()
	b, used := put(api.Int, l, how)
	if used != how {
		t.Fatalf("the test is wrong: encoding %d of %s is %d", how, show(l), used)
	}
	return b
}

// The length of the presence list stands in one byte or in more.
func TestPutOfLongPresence(t *testing.T) {
	for many, head := range map[int][]byte{123: {247}, 124: {248, 249}, 127: {248, 255}, 128: {249, 1, 1}, 4096: {249, 32, 3}} {
		l := make([]api.Value, many)
		for i := 0; i < many; i += 2 {
			l[i] = api.Value{Kind: api.Int, N: 0}
		}
		want := append([]byte{1}, head...)
		want = append(want, presenceOfTurns(many)...)
		want = append(want, make([]byte, (many+1)/2)...)
		mustPut(t, api.Int, l, api.Plain, want, api.Plain)
		mustTake(t, api.Int, want, l, api.Plain)
	}
}

// presenceOfTurns is the presence list of so many values of which each second one, from the second on, is Null.
func presenceOfTurns(many int) []byte {
	var b []byte
	switch {
	case many < 248:
		b = append(b, byte(many))
	case many < 256:
		b = append(b, 248, byte(many))
	default:
		b = append(b, 249, byte(many>>8), byte(many))
	}
	for i := range many {
		b = append(b, byte(2-i%2*2), 1)
	}
	return b
}

func TestPutOfAny(t *testing.T) {
	chance := rand.New(rand.NewSource(1))
	for _, kind := range kinds {
		all := lists(kind)
		for range 300 {
			all = append(all, someList(chance, kind, chance.Intn(60)))
		}
		for _, l := range all {
			for _, how := range encodings {
				want, used := put(kind, l, how)
				mustPut(t, kind, l, how, want, used)
			}
		}
	}
}

// All kinds that columns may not have, and all encodings that there are not, whatever else is wrong.
func TestPutOfWrongArguments(t *testing.T) {
	several := [][]api.Value{nil, {null}, ints(5), strs("a"), truths(1), make([]api.Value, 4097), slices.Repeat(ints(1), 4097), {{Kind: 9}}, {{N: 1}}}
	for n := range 256 {
		for _, l := range several {
			if n == 0 || n > int(api.Text) {
				for _, how := range []uint8{0, 1, 2, 3, 4, 5, 6, 255} {
					mustNotPut(t, uint8(n), l, how, api.ErrArg)
				}
			}
			if n == 0 || n > int(api.Delta) {
				for _, kind := range kinds {
					mustNotPut(t, kind, l, uint8(n), api.ErrArg)
				}
			}
		}
	}
}

// That there are too many is told ahead of values that may not be.
func TestPutOfTooMany(t *testing.T) {
	for _, kind := range kinds {
		for _, how := range encodings {
			for _, many := range []int{4097, 4098, 8192, 65536} {
				mustNotPut(t, kind, make([]api.Value, many), how, api.ErrLong)
				mustNotPut(t, kind, slices.Repeat([]api.Value{{Kind: kind}}, many), how, api.ErrLong)
				mustNotPut(t, kind, slices.Repeat([]api.Value{{Kind: 7, N: 7}}, many), how, api.ErrLong)
			}
		}
	}
}

// wrongValues is values that no column of a kind may have.
func wrongValues(kind uint8) []api.Value {
	l := []api.Value{
		{N: 1}, {N: -1}, {S: "a"}, {N: 5, S: "a"}, // Null with something
		{Kind: api.Bool, N: 2}, {Kind: api.Bool, N: -1}, {Kind: api.Bool, N: math.MinInt}, {Kind: api.Bool, N: 1, S: "a"},
		{Kind: api.Int, N: 5, S: "a"}, {Kind: api.Int, S: "\x00"},
		{Kind: api.Text, N: 1}, {Kind: api.Text, N: -1, S: "a"}, {Kind: api.Text, S: long(1025)}, {Kind: api.Text, S: long(1 << 16)},
		{Kind: 4}, {Kind: 255}, {Kind: 4, N: 1}, {Kind: 5, S: "a"},
	}
	for _, other := range []api.Value{{Kind: api.Bool}, {Kind: api.Int}, {Kind: api.Text}, {Kind: api.Bool, N: 1}, {Kind: api.Int, N: 1}, {Kind: api.Text, S: "a"}} {
		if other.Kind != kind {
			l = append(l, other)
		}
	}
	return l
}

func TestPutOfWrongValues(t *testing.T) {
	for _, kind := range kinds {
		good := api.Value{Kind: kind}
		for _, v := range wrongValues(kind) {
			for _, how := range encodings {
				mustNotPut(t, kind, []api.Value{v}, how, api.ErrType)
				mustNotPut(t, kind, []api.Value{null, v}, how, api.ErrType)
				mustNotPut(t, kind, []api.Value{good, v, good}, how, api.ErrType)
				mustNotPut(t, kind, append(slices.Repeat([]api.Value{good}, 4095), v), how, api.ErrType)
			}
		}
	}
}

// Arguments are neither changed nor kept, nor read beyond their length; answers are memory of their own.
func TestPutOwnsItsResults(t *testing.T) {
	for _, kind := range kinds {
		for _, how := range encodings {
			memory := append(slices.Repeat([]api.Value{{Kind: kind}, null, {Kind: kind}}, 2), api.Value{Kind: 9, N: 9, S: "x"})
			was := slices.Clone(memory)
			want, used := put(kind, memory[:6], how)
			kept, _, _ := Put(kind, memory[:6], how)
			for range 2 {
				mustPut(t, kind, memory[:6], how, want, used)
				b, _, _ := Put(kind, memory[:6], how)
				clear(b[:cap(b)])
			}
			if !slices.Equal(memory, was) {
				t.Errorf("Put changed its argument's memory: %v", memory)
			}
			clear(memory)
			if !bytes.Equal(kept, want) {
				t.Errorf("what Put answered became %d", kept)
			}
		}
	}
}
