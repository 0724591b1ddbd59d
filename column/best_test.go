package column

import (
	"bytes"
	"math"
	"math/rand"
	"slices"
	"testing"

	"warp/api"
)

// P12.2: Best and Words.

func TestBest(t *testing.T) {
	var hundreds, climbs []int
	for i := range 100 {
		hundreds = append(hundreds, i*100)
		climbs = append(climbs, 1000000+i)
	}
	for _, c := range []struct {
		kind uint8
		l    []api.Value
		want uint8
	}{
		{api.Bool, nil, api.Plain},
		{api.Int, nil, api.Plain},
		{api.Text, nil, api.Plain},
		{api.Int, make([]api.Value, 4096), api.Plain},
		{api.Text, make([]api.Value, 9), api.Plain},
		{api.Int, ints(7), api.Plain},
		{api.Int, ints(5, 5, 5), api.Plain},                               // as many bytes as with Runs and Frame
		{api.Int, ints(5, 5, 5, 5), api.Runs},                             // as many bytes as with Frame
		{api.Int, withNull(slices.Repeat(ints(5), 6), 0, 3, 5), api.Runs}, // Nulls are no part of the data
		{api.Int, slices.Repeat(ints(123456), 300), api.Runs},
		{api.Int, append(slices.Repeat(ints(0), 2000), slices.Repeat(ints(1), 2000)...), api.Runs},
		{api.Int, ints(climbs...), api.Frame},
		{api.Int, slices.Repeat(ints(1, 2, 3), 100), api.Frame},
		{api.Int, ints(hundreds...), api.Delta},
		{api.Int, ints(math.MinInt, math.MaxInt), api.Plain},                     // there are no steps
		{api.Int, ints(math.MinInt, math.MinInt, math.MinInt), api.Runs},         //
		{api.Int, ints(1<<40, 1<<40+1, 1<<40, 1<<40+2, 1<<40, 1<<40), api.Frame}, //
		{api.Bool, truths(1), api.Plain},
		{api.Bool, slices.Repeat(truths(1, 0), 8), api.Frame},
		{api.Bool, slices.Repeat(truths(1), 16), api.Runs},
		{api.Text, strs("a"), api.Plain},
		{api.Text, strs("b", "a", "b"), api.Plain},
		{api.Text, slices.Repeat(strs("word"), 2), api.Plain},
		{api.Text, slices.Repeat(strs("word"), 3), api.Dict},
		{api.Text, slices.Repeat(strs("word", "w"), 2048), api.Dict},
		{api.Text, slices.Repeat(numbered(200), 20), api.Dict},
		{api.Text, slices.Repeat(numbered(201), 20), api.Plain}, // there are too many words
		{api.Text, numbered(201), api.Plain},
	} {
		mustBest(t, c.kind, c.l, c.want, api.OK)
	}
}

// best is what Best must answer for a column, and whether another encoding has as few bytes as that.
func best(kind uint8, l []api.Value) (uint8, bool) {
	found, fewest, tie := uint8(0), math.MaxInt, false
	for _, how := range encodings {
		b, used := put(kind, l, how)
		if used != how || len(b) > fewest {
			continue
		}
		tie = len(b) == fewest
		if !tie {
			found, fewest = how, len(b)
		}
	}
	return found, tie
}

func TestBestOfAny(t *testing.T) {
	chance := rand.New(rand.NewSource(3))
	found, ties := map[uint8]int{}, 0
	for _, kind := range kinds {
		all := lists(kind)
		for range 1000 {
			all = append(all, someList(chance, kind, chance.Intn(30)))
		}
		for _, l := range all {
			how, tie := best(kind, l)
			mustBest(t, kind, l, how, api.OK)
			found[how]++
			if tie {
				ties++
			}
		}
	}
	if len(found) < 4 || ties < 20 {
		t.Errorf("the best encodings were %d times the ones, and %d times one of several", found, ties)
	}
}

func TestBestOfWrongArguments(t *testing.T) {
	for n := range 256 {
		if kind := uint8(n); !slices.Contains(kinds, kind) {
			for _, l := range [][]api.Value{nil, {null}, ints(1), strs("a"), make([]api.Value, 4097), {{Kind: kind, N: 1}}} {
				mustBest(t, kind, l, 0, api.ErrArg)
			}
		}
	}
	for _, kind := range kinds {
		good := api.Value{Kind: kind}
		for _, v := range wrongValues(kind) {
			mustBest(t, kind, []api.Value{v}, 0, api.ErrType)
			mustBest(t, kind, []api.Value{good, null, v, good}, 0, api.ErrType)
			mustBest(t, kind, slices.Repeat([]api.Value{v}, 4097), 0, api.ErrLong)
		}
		mustBest(t, kind, make([]api.Value, 4097), 0, api.ErrLong)
		mustBest(t, kind, slices.Repeat([]api.Value{good}, 10000), 0, api.ErrLong)
	}
}

func TestWords(t *testing.T) {
	for _, c := range []struct {
		b     []byte
		words []string
		ok    bool
	}{
		{[]byte{3, 3, 1, 2, 3, 2, 0, 1, 97, 0, 1, 98, 3, 0, 1, 5}, []string{"a", "b"}, true},
		{[]byte{3, 7, 3, 2, 1, 0, 1, 2, 1, 2, 0, 2, 97, 98, 2, 1, 99, 2, 0, 1, 1}, []string{"ab", "abc"}, true},
		{[]byte{3, 3, 1, 2, 1, 1, 0, 0, 1, 0, 0}, []string{""}, true},
		{[]byte{3, 1, 0, 0, 0}, nil, true},
		{[]byte{3, 3, 1, 0, 1, 0, 0}, nil, true},
		{[]byte{1, 3, 1, 2, 3, 1, 98, 1, 97, 1, 98}, nil, false}, // Plain
		{[]byte{1, 1, 0}, nil, false},
		{[]byte{2, 1, 0, 0}, nil, false}, // no encoding of texts
		{[]byte{4, 1, 0, 0}, nil, false},
		{[]byte{5, 1, 0, 0}, nil, false},
		{[]byte{2, 7, 3, 2, 1, 0, 1, 2, 1, 1, 10, 2}, nil, false},
		{nil, nil, false},
		{[]byte{3}, nil, false},
		{[]byte{3, 1, 0, 0}, nil, false},
		{[]byte{3, 1, 0, 0, 0, 0}, nil, false},
		{[]byte{3, 3, 1, 2, 3, 2, 0, 1, 97, 0, 1, 98, 3, 0, 1, 7}, nil, false}, // no text is the word a
		{[]byte{3, 3, 1, 2, 2, 2, 0, 1, 97, 0, 1, 98, 3, 0, 1, 5}, nil, false},
		{[]byte{2, 0, 1, 97, 0, 1, 98}, nil, false}, // words alone
	} {
		mustWords(t, c.b, c.words, c.ok)
	}
}

func TestWordsOfAny(t *testing.T) {
	chance := rand.New(rand.NewSource(4))
	all := lists(api.Text)
	for range 500 {
		all = append(all, someList(chance, api.Text, chance.Intn(60)))
	}
	for _, l := range all {
		_, _, want := parts(l)
		slices.Sort(want)
		want = slices.Compact(want)
		b, used := put(api.Text, l, api.Dict)
		if used == api.Dict {
			mustWords(t, b, want, true)
			mustWords(t, append(slices.Clone(b), 0), nil, false)
			mustWords(t, b[:len(b)-1], nil, false)
		} else {
			mustWords(t, b, nil, false)
		}
		b, _ = put(api.Text, l, api.Plain)
		mustWords(t, b, nil, false)
	}
}

// Arguments are neither changed nor kept, nor read beyond their length; answers are memory of their own.
func TestWordsOwnsItsResults(t *testing.T) {
	memory := []byte{3, 3, 1, 2, 3, 2, 0, 1, 97, 0, 1, 98, 3, 0, 1, 5, 9, 9}
	was, want := slices.Clone(memory), []string{"a", "b"}
	kept, _ := Words(memory[:16])
	for range 2 {
		mustWords(t, memory[:16], want, true)
		words, _ := Words(memory[:16])
		clear(words[:cap(words)])
	}
	mustWords(t, memory[:15], nil, false) // the byte that is missing lies beyond the length
	if !bytes.Equal(memory, was) {
		t.Errorf("Words changed its argument's memory: %d", memory)
	}
	clear(memory)
	if !slices.Equal(kept, want) {
		t.Errorf("what Words answered became %q", kept)
	}
	values := append(strs("a", "b"), api.Value{Kind: 9})
	held := slices.Clone(values)
	mustBest(t, api.Text, values[:2], api.Plain, api.OK)
	if !slices.Equal(values, held) {
		t.Errorf("Best changed its argument's memory: %v", values)
	}
}
