package dict

import (
	"bytes"
	"math/rand"
	"slices"
	"testing"

	"warp/api"
)

// P10.2: Put and Take.

func TestPut(t *testing.T) {
	for _, c := range []struct {
		words []string
		want  []byte
	}{
		{nil, []byte{0}},
		{[]string{}, []byte{0}},
		{[]string{""}, []byte{1, 0, 0}},
		{[]string{"a"}, []byte{1, 0, 1, 97}},
		{[]string{"ab", "abc"}, []byte{2, 0, 2, 97, 98, 2, 1, 99}},
		{[]string{"", "a"}, []byte{2, 0, 0, 0, 1, 97}},
		{[]string{"a", "b"}, []byte{2, 0, 1, 97, 0, 1, 98}},
		{[]string{"ab", "ac", "b"}, []byte{3, 0, 2, 97, 98, 1, 1, 99, 0, 1, 98}},
		{[]string{"\x00", "\xff"}, []byte{2, 0, 1, 0, 0, 1, 255}},
		{[]string{"é", "ê"}, []byte{2, 0, 2, 195, 169, 1, 1, 170}},
		{[]string{"aab", "aba"}, []byte{2, 0, 3, 97, 97, 98, 1, 2, 98, 97}},
		{[]string{long(248), long(250)}, slices.Concat([]byte{2, 0, 248, 248}, []byte(long(248)), []byte{248, 248, 2, 120, 120})},
		{[]string{long(1024)}, slices.Concat([]byte{1, 0, 249, 4, 0}, []byte(long(1024)))},
		{[]string{long(1023), long(1024)}, slices.Concat([]byte{2, 0, 249, 3, 255}, []byte(long(1023)), []byte{249, 3, 255, 1, 120})},
	} {
		mustPut(t, c.words, c.want)
		mustTake(t, c.want, c.words, nil)
		mustTake(t, append(slices.Clone(c.want), 0, 255, 7), c.words, []byte{0, 255, 7})
	}
}

func TestPutOfAny(t *testing.T) {
	for _, words := range valid() {
		mustPut(t, words, put(words))
		mustTake(t, put(words), words, nil)
		mustTake(t, append(put(words), 9), words, []byte{9})
	}
	chance := rand.New(rand.NewSource(3))
	for range 1000 {
		words := someDict(chance)
		mustPut(t, words, put(words))
		rest := []byte(someWord(chance))
		mustTake(t, append(put(words), rest...), words, rest)
	}
}

func TestPutOfWrongWords(t *testing.T) {
	for _, words := range wrong() {
		if b, e := Put(words); e != api.ErrArg || len(b) != 0 {
			t.Errorf("Put(%.100q) is %.100d and error %d", words, b, e)
		}
	}
}

// Bytes that begin with the Put of no dictionary: the forms that Put could answer, but for one thing.
func TestTakeOfWrongForms(t *testing.T) {
	bad := [][]byte{
		nil,
		{},
		{1},              // no word
		{1, 0},           // no rest
		{1, 0, 1},        // a byte of it too few
		{1, 0, 2, 97},    //
		{2, 0, 1, 97},    // a word too few
		{2, 0, 1, 97, 1}, // and half a word
		{2, 0, 1, 97, 1, 1},
		{1, 1, 0},           // a prefix of no word
		{1, 1, 1, 97},       //
		{2, 0, 1, 97, 2, 0}, // a prefix that is longer than the word ahead
		{2, 0, 1, 97, 2, 1, 98},
		{2, 0, 1, 97, 248, 255, 1, 98},
		{2, 0, 2, 97, 98, 0, 3, 97, 98, 99}, // a prefix that is not the longest
		{2, 0, 2, 97, 98, 1, 2, 98, 99},
		{2, 0, 0, 0, 0},           // a word twice
		{2, 0, 1, 97, 1, 0},       //
		{2, 0, 1, 97, 0, 1, 97},   //
		{2, 0, 2, 97, 98, 1, 0},   // a word that is less than the one ahead
		{2, 0, 1, 97, 0, 0},       //
		{2, 0, 1, 98, 0, 1, 97},   //
		{2, 0, 1, 255, 0, 1, 127}, //
		{3, 0, 1, 97, 0, 1, 99, 0, 1, 98},
		{248, 2, 0, 1, 97, 0, 1, 98}, // numbers that are not the shortest encoding
		{1, 248, 0, 1, 97},
		{1, 0, 248, 1, 97},
		{249, 0, 1, 0, 1, 97},
		{247}, {248}, {255}, {248, 200}, {255, 1},
		encoded(1<<64-1, parts([]string{"a"})...), // numbers that a smaller integer could take for others
		encoded(1<<63, parts([]string{"a"})...),
		encoded(1<<63+1, parts([]string{"a"})...),
		encoded(1<<32+1, parts([]string{"a"})...),
		encoded(1 << 32),
		encoded(1 << 63),
		encoded(257, parts([]string{"a"})...),
		encoded(2, part{0, "a"}, part{1 << 63, "b"}),
		encoded(2, part{0, "a"}, part{1<<64 - 1, "b"}),
		encoded(2, part{0, "a"}, part{1<<32 + 1, "b"}),
		encoded(2, part{0, "a"}, part{257, "b"}),
		encoded(2, part{0, "a"}, part{1 << 32, "b"}),
		encoded(1, part{1 << 32, "b"}),
		encoded(1, part{1 << 63, ""}),
		encoded(2, part{0, long(1024)}, part{1024, "a"}), // a word that is too long
		encoded(2, part{0, long(1000)}, part{1000, long(25)}),
		encoded(2, part{0, long(1024)}, part{1024, long(1024)}),
		encoded(3, part{0, long(1024)}, part{1024, "a"}, part{0, "y"}),
		encoded(1, part{0, long(1025)}),
		encoded(2, part{0, "a"}, part{0, "x" + long(1024)}),
	}
	for _, words := range wrong() {
		bad = append(bad, encoded(uint64(len(words)), parts(words)...))
	}
	for _, b := range bad {
		if words, _, ok := taken(b); ok {
			t.Fatalf("the test is wrong: %.100d begins with the Put of %.100q", b, words)
		}
		mustNotTake(t, b)
		mustNotTake(t, append(slices.Clone(b), make([]byte, 3)...)[:len(b)])
	}
}

// What is as near to those as can be, but begins with the Put of a dictionary.
func TestTakeOfEdges(t *testing.T) {
	mustTake(t, []byte{0}, nil, nil)
	mustTake(t, []byte{0, 0}, nil, []byte{0})
	mustTake(t, []byte{0, 248}, nil, []byte{248})
	mustTake(t, []byte{1, 0, 0, 1}, []string{""}, []byte{1})
	mustTake(t, []byte{2, 0, 2, 97, 98, 2, 1, 99}, []string{"ab", "abc"}, nil)
	mustTake(t, []byte{2, 0, 2, 97, 98, 2, 1, 0}, []string{"ab", "ab\x00"}, nil)
	mustTake(t, []byte{2, 0, 2, 97, 98, 1, 1, 99, 3}, []string{"ab", "ac"}, []byte{3})
	mustTake(t, encoded(2, part{0, long(1000)}, part{1000, long(24)}), []string{long(1000), long(1024)}, nil)
	mustTake(t, put(numbered(200)), numbered(200), nil)
}

// mustTakeAs tells unless Take answers as the parts of b tell.
func mustTakeAs(t *testing.T, b []byte) bool {
	t.Helper()
	words, rest, ok := taken(b)
	if ok {
		mustTake(t, b, words, rest)
		mustPut(t, words, b[:len(b)-len(rest)])
	} else {
		mustNotTake(t, b)
	}
	return ok
}

// All bytes of at most two, and all of at most eight of a few sorts.
func TestTakeOfAllShortBytes(t *testing.T) {
	mustTakeAs(t, nil)
	for one := range 256 {
		mustTakeAs(t, []byte{byte(one)})
		for two := range 256 {
			mustTakeAs(t, []byte{byte(one), byte(two)})
		}
	}
	sorts := []byte{0, 1, 2, 3, 248, 255}
	found := 0
	all := make([]byte, 8)
	var next func(at int)
	next = func(at int) {
		if mustTakeAs(t, all[:at]) && all[0] == 2 {
			found++
		}
		// What is behind no words is all the same to them.
		if at == len(all) || at > 1 && all[0] == 0 {
			return
		}
		for _, c := range sorts {
			if at == 0 && c > 3 {
				continue
			}
			all[at] = c
			next(at + 1)
		}
	}
	next(0)
	if found == 0 {
		t.Error("none of the bytes were those of two words")
	}
}

// Bytes of dictionaries with one byte changed, or cut off anywhere.
func TestTakeOfSpoiltBytes(t *testing.T) {
	chance := rand.New(rand.NewSource(4))
	found := 0
	for range 150 {
		b := put(someDict(chance))
		for i := range b {
			for _, flip := range []byte{byte(1 + chance.Intn(255)), 1 << chance.Intn(8), 1, 2} {
				spoilt := slices.Clone(b)
				spoilt[i] ^= flip
				if mustTakeAs(t, spoilt) {
					found++
				}
			}
			mustNotTake(t, b[:i])
		}
	}
	if found == 0 {
		t.Error("no spoilt bytes were those of another dictionary")
	}
}

// A great many bytes.
func TestTakeOfManyBytes(t *testing.T) {
	for _, c := range []byte{1, 2, 247, 248, 249, 255} {
		b := bytes.Repeat([]byte{c}, 1<<20)
		mustTakeAs(t, b)
		mustNotTake(t, append(encoded(1<<64-1), b...))
		mustTake(t, append([]byte{1, 0, 1, 97}, b...), []string{"a"}, b)
	}
	zeros := make([]byte, 1<<20)
	mustTake(t, zeros, nil, zeros[1:])
	// Each word is longer than the one ahead, and they are more than a dictionary's.
	grow := encoded(1 << 20)
	for i := range uint64(3000) {
		grow = append(grow, encoded(0, part{i * 1024, long(1024)})[1:]...)
	}
	mustNotTake(t, grow)
}

// Arguments are neither changed nor kept, nor read beyond their length; answers are memory of their own.
func TestBytesOwnTheirResults(t *testing.T) {
	memory := []string{"ab", "abc", "a"}
	kept, _ := Put(memory[:2])
	want := []byte{2, 0, 2, 97, 98, 2, 1, 99}
	for range 2 {
		b, e := Put(memory[:2])
		if e != api.OK || !bytes.Equal(b, want) {
			t.Fatalf("Put is %d and error %d", b, e)
		}
		clear(b[:cap(b)])
	}
	if !slices.Equal(memory, []string{"ab", "abc", "a"}) {
		t.Errorf("Put changed its argument's memory: %q", memory)
	}
	clear(memory)
	if !bytes.Equal(kept, want) {
		t.Errorf("what Put answered became %d", kept)
	}
	takesItsOwn(t, append(want, 5, 6, 7, 8))
}

// takesItsOwn is that test for Take; b is ab and abc, and four bytes, of which two are not handed in.
func takesItsOwn(t *testing.T, b []byte) {
	t.Helper()
	was := slices.Clone(b)
	words, rest, _ := Take(b[:10])
	for range 2 {
		w, r, e := Take(b[:10])
		if e != api.OK || !slices.Equal(w, []string{"ab", "abc"}) || !bytes.Equal(r, []byte{5, 6}) {
			t.Fatalf("Take is %q, %d and error %d", w, r, e)
		}
		clear(w[:cap(w)])
		clear(r[:cap(r)])
	}
	mustNotTake(t, b[:7]) // the byte that is missing lies beyond the length
	if !bytes.Equal(b, was) {
		t.Errorf("Take changed its argument's memory: %d", b)
	}
	clear(b)
	if !slices.Equal(words, []string{"ab", "abc"}) || !bytes.Equal(rest, []byte{5, 6}) {
		t.Errorf("what Take answered became %q, %d", words, rest)
	}
}
