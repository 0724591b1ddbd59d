package column

import (
	"bytes"
	"math"
	"math/rand"
	"slices"
	"testing"

	"warp/api"
	"warp/octets"
)

// P12.2: Take.

func TestTakeOfWrongKinds(t *testing.T) {
	for n := range 256 {
		if kind := uint8(n); kind == api.Null || kind > api.Text {
			for _, b := range [][]byte{nil, {}, {1, 1, 0}, {1, 3, 1, 0, 1}, {9}, {1, 3, 1, 2, 1, 2}} {
				if l, how, e := Take(kind, b); e != api.ErrArg || how != 0 || len(l) != 0 {
					t.Fatalf("Take(%d, %d) is %v, encoding %d and error %d", kind, b, l, how, e)
				}
			}
		}
	}
}

// Bytes that are those of no column of any kind.
func TestTakeOfWrongForms(t *testing.T) {
	one, two, three := []int{1}, []int{1, 1}, []int{1, 1, 1}
	for _, b := range [][]byte{
		nil,
		{},
		{0}, {1}, {2}, {3}, {4}, {5}, {6}, {255}, // no presence list
		{1, 0}, {2, 0}, {1, 0, 0}, {2, 0, 0}, // one of no bytes
		{1, 1}, {1, 2, 0}, {1, 3, 1, 2}, // one with a byte too few
		{1, 2, 0, 0}, {2, 2, 0, 0, 0}, // with one too many
		{1, 3, 1, 2, 0}, {1, 3, 1, 0, 0}, // with a run of none
		{1, 3, 2, 2, 1, 2}, {1, 5, 2, 2, 1, 2, 1, 2, 2}, // with half the runs, and with two runs of the same
		{1, 3, 1, 4, 1, 2}, {1, 3, 1, 1, 1, 2}, {1, 3, 1, 1, 1}, {1, 5, 2, 0, 1, 4, 1, 2}, // with integers that are neither 0 nor 1
		{1, 3, 1, 1, 1, 0}, {1, 3, 1, 6, 1, 2},
		{1, 5, 1, 0, 249, 16, 1},                                // with too many values
		{1, 248, 1, 0}, {1, 249, 0, 1, 0}, {1, 4, 248, 1, 0, 1}, // integers that are not their shortest encoding
		{0, 1, 0}, {6, 1, 0}, {6, 1, 0, 0}, {7, 1, 0}, {255, 1, 0}, {248, 1, 1, 0}, {0, 3, 1, 0, 1}, // no encoding
		{1, 1, 0, 0}, {1, 3, 1, 0, 1, 0}, {1, 3, 1, 0, 1, 2}, {1, 3, 1, 0, 1, 1, 97}, // a value too many
		{2, 1, 0, 1, 2, 1}, {4, 1, 0, 1, 0, 0}, {5, 1, 0, 1, 2}, {3, 1, 0, 1, 0, 1, 97, 1, 0, 0},
		{1, 3, 1, 2, 1}, {2, 3, 1, 2, 1, 0}, {4, 3, 1, 2, 1, 0}, {5, 3, 1, 2, 1, 0}, {3, 3, 1, 2, 1, 0, 0}, // one too few
		{2, 1, 0}, {3, 1, 0}, {3, 1, 0, 0}, {4, 1, 0}, {5, 1, 0}, // no data
		{2, 1, 0, 0, 0}, {3, 1, 0, 0, 0, 0}, {4, 1, 0, 0, 0}, {5, 1, 0, 0, 0}, // a byte behind it
		encoded(api.Runs, one, 1, 2, 2), encoded(api.Runs, two, 1, 2, 1), encoded(api.Runs, two, 2, 2, 1, 2, 1), encoded(api.Runs, two, 1, 2, 2, 0),
		encoded(api.Frame, one, 2, 2, 0), encoded(api.Frame, two, 2, 2, 1, 0), encoded(api.Frame, two, 2, 0, 1, 3), encoded(api.Frame, two, 2, 0, 1, 6), encoded(api.Frame, two, 2, 0, 2, 1),
		encoded(api.Delta, one, 2, 2, 0), encoded(api.Delta, two, 2, 2), encoded(api.Delta, two, 2, 2, 0, 0), encoded(api.Delta, two, 1, 2),
		encoded(api.Dict, one, 2, 0, 1, 97, 0, 1, 98, 1, 0, 0), // a word of no text
		encoded(api.Dict, one, 2, 0, 1, 97, 0, 1, 98, 1, 2, 0),
		encoded(api.Dict, two, 3, 0, 1, 97, 0, 1, 98, 0, 1, 99, 2, 0, 2, 8),
		encoded(api.Dict, nil, 1, 0, 0, 0),
		encoded(api.Dict, one, 1, 0, 1, 97, 1, 2, 0), // a text of no word
		encoded(api.Dict, two, 1, 0, 1, 97, 2, 0, 1, 2),
		encoded(api.Dict, two, 2, 0, 1, 97, 0, 1, 98, 2, 0, 2, 8),
		encoded(api.Dict, three, 2, 0, 1, 97, 0, 1, 98, 3, 1, 2, 36), // indices from -1 on
		encoded(api.Dict, one, slices.Concat([]byte{1, 0, 1, 97, 1}, octets.Int(nil, math.MinInt), []byte{0})...),
		encoded(api.Dict, one, slices.Concat([]byte{1, 0, 1, 97, 1}, octets.Int(nil, math.MaxInt), []byte{0})...),
		encoded(api.Dict, two, 2, 0, 1, 98, 0, 1, 97, 2, 0, 1, 2), // words that are no dictionary
		encoded(api.Dict, two, 2, 0, 1, 97, 0, 1, 97, 2, 0, 1, 2),
		encoded(api.Dict, two, 2, 0, 2, 97, 98, 0, 2, 97, 99, 2, 0, 1, 2), // and a prefix that is not the longest
		encoded(api.Dict, one, 1, 0, 1, 97),                               // no indices
		encoded(api.Dict, one, 1, 0, 1, 97, 0),
		encoded(api.Dict, two, 1, 0, 1, 97, 1, 0, 0),
		encoded(api.Plain, one, 248, 2), encoded(api.Plain, one, 248, 1, 97), encoded(api.Plain, one, 248), encoded(api.Plain, one, 255, 1), // values that are not encoded so
		encoded(api.Plain, one, octets.Text(nil, long(1025))...),
		slices.Concat([]byte{1}, octets.Num(nil, 1<<64-1), []byte{1, 0, 1}), // lengths that a smaller integer could take for others
		slices.Concat([]byte{1}, octets.Num(nil, 1<<63), []byte{0}),
		slices.Concat([]byte{1}, octets.Num(nil, 1<<63+1), []byte{0}),
		slices.Concat([]byte{1}, octets.Num(nil, 1<<32+1), []byte{0}),
		slices.Concat([]byte{1}, octets.Num(nil, 1<<32+3), []byte{1, 0, 1}),
		slices.Concat([]byte{1}, octets.Num(nil, 257), []byte{0}),
	} {
		for _, kind := range kinds {
			if l, _, ok := taken(kind, b); ok {
				t.Fatalf("the test is wrong: %d is Put of %v", b, l)
			}
			mustNotTake(t, kind, b)
		}
		mustWords(t, b, nil, false)
	}
}

// Bytes of a column of one kind that are none of another kind.
func TestTakeOfOtherKinds(t *testing.T) {
	for _, c := range []struct {
		b    []byte
		fits []uint8
	}{
		{[]byte{1, 1, 0}, kinds},
		{[]byte{1, 3, 1, 0, 1}, kinds},
		{[]byte{3, 1, 0, 0, 0}, []uint8{api.Text}}, // of no values, and yet not Plain
		{[]byte{3, 3, 1, 0, 1, 0, 0}, []uint8{api.Text}},
		{[]byte{2, 1, 0, 0}, []uint8{api.Bool, api.Int}},
		{[]byte{4, 1, 0, 0}, []uint8{api.Bool, api.Int}},
		{[]byte{5, 3, 1, 0, 1, 0}, []uint8{api.Bool, api.Int}},
		{encoded(api.Plain, []int{1}, 0), kinds}, // false, 0 and the empty text
		{encoded(api.Plain, []int{1}, 2), []uint8{api.Bool, api.Int}},
		{encoded(api.Plain, []int{1}, 1), []uint8{api.Int}},
		{encoded(api.Plain, []int{1}, 4), []uint8{api.Int}},
		{encoded(api.Plain, []int{1}, 1, 97), []uint8{api.Text}},
		{encoded(api.Plain, []int{1, 1}, 1, 2), []uint8{api.Int}},
		{encoded(api.Runs, []int{1}, 1, 2, 1), []uint8{api.Bool, api.Int}},
		{encoded(api.Runs, []int{1}, 1, 4, 1), []uint8{api.Int}},
		{encoded(api.Runs, []int{1, 1}, 2, 2, 1, 1, 1), []uint8{api.Int}},
		{encoded(api.Frame, []int{1, 1}, 2, 0, 1, 2), []uint8{api.Bool, api.Int}},
		{encoded(api.Frame, []int{1, 1}, 2, 0, 2, 8), []uint8{api.Int}},
		{encoded(api.Frame, []int{1, 1}, 2, 1, 1, 2), []uint8{api.Int}},
		{encoded(api.Delta, []int{1, 1}, 2, 2, 1), []uint8{api.Bool, api.Int}},
		{encoded(api.Delta, []int{1, 1}, 2, 2, 3), []uint8{api.Int}},
		{encoded(api.Dict, []int{1}, 1, 0, 1, 97, 1, 0, 0), []uint8{api.Text}},
	} {
		for _, kind := range kinds {
			if ok := mustTakeAs(t, kind, c.b); ok != slices.Contains(c.fits, kind) {
				t.Errorf("the test is wrong: for kind %d, %d is a column: %t", kind, c.b, ok)
			}
		}
	}
}

// All bytes of at most two, and many more behind a short presence list, of a few sorts.
func TestTakeOfAllShortBytes(t *testing.T) {
	found := map[uint8]int{}
	mustBe := func(b []byte) {
		for _, kind := range kinds {
			if mustTakeAs(t, kind, b) {
				found[kind]++
			}
		}
	}
	mustBe(nil)
	for one := range 256 {
		mustBe([]byte{byte(one)})
		for two := range 256 {
			mustBe([]byte{byte(one), byte(two)})
		}
	}
	sorts := []byte{0, 1, 2, 3, 4, 248}
	all := make([]byte, 0, 20)
	var next func(left int)
	next = func(left int) {
		mustBe(all)
		if left == 0 {
			return
		}
		for _, c := range sorts {
			all = append(all, c)
			next(left - 1)
			all = all[:len(all)-1]
		}
	}
	next(5)
	for how := range uint8(7) {
		for _, there := range [][]int{nil, {0}, {1}, {1, 1}, {0, 1}, {2}} {
			all = append(all[:0], encoded(how, there)...)
			next(4)
		}
	}
	for _, kind := range kinds {
		if found[kind] < 20 {
			t.Errorf("only %d of the bytes were columns of kind %d", found[kind], kind)
		}
	}
}

// All data of up to ten bytes of a few sorts, of at most two words, for one text or two.
func TestTakeOfAllShortWords(t *testing.T) {
	found := map[int]int{}
	for _, there := range [][]int{{1}, {1, 1}} {
		for many, left := range []int{5, 6, 8} {
			all := encoded(api.Dict, there, byte(many), 0)
			var next func(left int)
			next = func(left int) {
				if mustTakeAs(t, api.Text, all) {
					found[many]++
				}
				if left == 0 {
					return
				}
				for _, c := range []byte{0, 1, 2, 3} {
					all = append(all, c)
					next(left - 1)
					all = all[:len(all)-1]
				}
			}
			next(left)
		}
	}
	if found[0] > 0 || found[1] < 5 || found[2] < 5 {
		t.Errorf("so many of the bytes were columns, by their numbers of words: %d", found)
	}
}

// Bytes of columns with one byte changed, or cut off anywhere, or with bytes behind.
func TestTakeOfSpoiltBytes(t *testing.T) {
	chance := rand.New(rand.NewSource(2))
	found := 0
	for range 100 {
		for _, kind := range kinds {
			for _, how := range encodings {
				b, _ := put(kind, someList(chance, kind, 1+chance.Intn(12)), how)
				for i := range b {
					for _, flip := range []byte{byte(1 + chance.Intn(255)), 1 << chance.Intn(8), 1, 2} {
						spoilt := slices.Clone(b)
						spoilt[i] ^= flip
						if mustTakeAs(t, kind, spoilt) {
							found++
						}
					}
					mustNotTake(t, kind, b[:i])
				}
				mustNotTake(t, kind, append(slices.Clone(b), 0))
				mustNotTake(t, kind, append(slices.Clone(b), byte(chance.Intn(256))))
			}
		}
	}
	if found == 0 {
		t.Error("no spoilt bytes were those of another column")
	}
}

// A great many bytes are no column.
func TestTakeOfManyBytes(t *testing.T) {
	ones := slices.Repeat([]int{1}, 4096)
	for _, c := range []byte{0, 1, 2, 3, 247, 248, 249, 255} {
		b := bytes.Repeat([]byte{c}, 1<<17)
		for _, kind := range kinds {
			mustNotTake(t, kind, b)
			for _, how := range encodings {
				mustNotTake(t, kind, append(encoded(how, nil), b...))
				mustNotTake(t, kind, append(encoded(how, ones), b...))
			}
		}
	}
}

// As many values as there may be are taken, and not one more.
func TestTakeOfMostValues(t *testing.T) {
	for _, kind := range kinds {
		b := append([]byte{1, 5, 1, 2, 249, 16, 0}, make([]byte, 4096)...)
		mustTake(t, kind, b, slices.Repeat([]api.Value{{Kind: kind}}, 4096), api.Plain)
		mustNotTake(t, kind, append([]byte{1, 5, 1, 2, 249, 16, 1}, make([]byte, 4097)...))
		mustNotTake(t, kind, append([]byte{1, 5, 1, 2, 249, 16, 0}, make([]byte, 4097)...))
		mustNotTake(t, kind, append([]byte{1, 5, 1, 2, 249, 16, 0}, make([]byte, 4095)...))
	}
}

// Arguments are neither changed nor kept, nor read beyond their length; answers are memory of their own.
func TestTakeOwnsItsResults(t *testing.T) {
	for _, kind := range kinds {
		for _, how := range encodings {
			l := []api.Value{{Kind: kind}, null, {Kind: kind}}
			b, used := put(kind, l, how)
			memory := append(slices.Clone(b), 0, 1, 2)
			was := slices.Clone(memory)
			kept, _, _ := Take(kind, memory[:len(b)])
			for range 2 {
				mustTake(t, kind, memory[:len(b)], l, used)
				got, _, _ := Take(kind, memory[:len(b)])
				clear(got[:cap(got)])
			}
			mustNotTake(t, kind, memory[:len(b)-1]) // the byte that is missing lies beyond the length
			if !bytes.Equal(memory, was) {
				t.Errorf("Take changed its argument's memory: %d", memory)
			}
			clear(memory)
			if !slices.Equal(kept, l) {
				t.Errorf("what Take answered became %v", kept)
			}
		}
	}
}
