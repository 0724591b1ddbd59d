package pack

import (
	"bytes"
	"math"
	"math/rand"
	"slices"
	"testing"

	"warp/api"
	"warp/octets"
)

// P8.3: Frame and Unframe.

func TestFrame(t *testing.T) {
	for _, c := range []struct {
		l    []int
		want []byte
	}{
		{nil, []byte{0}},
		{[]int{}, []byte{0}},
		{[]int{7, 7}, []byte{2, 14, 0}},
		{[]int{3, 5}, []byte{2, 6, 2, 8}},
		{[]int{5, 3}, []byte{2, 6, 2, 2}},
		{[]int{0}, []byte{1, 0, 0}},
		{[]int{-1}, []byte{1, 1, 0}},
		{[]int{-1, 0}, []byte{2, 1, 1, 2}},
		{[]int{-3, -1, -3}, []byte{3, 5, 2, 8}},
		{[]int{124}, []byte{1, 248, 248, 0}},
		{[]int{0, 255}, []byte{2, 0, 8, 0, 255}},
		{[]int{0, 256}, []byte{2, 0, 9, 0, 0, 2}},
		{[]int{math.MaxInt}, []byte{1, 255, 255, 255, 255, 255, 255, 255, 255, 254, 0}},
		{[]int{math.MinInt}, []byte{1, 255, 255, 255, 255, 255, 255, 255, 255, 255, 0}},
		{[]int{math.MinInt, math.MaxInt}, []byte{2, 255, 255, 255, 255, 255, 255, 255, 255, 255, 64, 0, 0, 0, 0, 0, 0, 0, 0, 255, 255, 255, 255, 255, 255, 255, 255}},
		{[]int{math.MaxInt, -1}, []byte{2, 1, 64, 0, 0, 0, 0, 0, 0, 0, 128, 0, 0, 0, 0, 0, 0, 0, 0}},
		{[]int{math.MaxInt, 0}, []byte{2, 0, 63, 255, 255, 255, 255, 255, 255, 255, 127, 0, 0, 0, 0, 0, 0, 0, 0}},
		{make([]int, 8), []byte{8, 0, 0}},
		{make([]int, 248), []byte{248, 248, 0, 0}},
		{make([]int, 4096), []byte{249, 16, 0, 0, 0}},
	} {
		mustFrame(t, c.l, c.want)
		mustUnframe(t, c.want, c.l)
	}
}

// Pairs and triples of integers at the edges, held against integers of any size.
func TestFrameOfEdges(t *testing.T) {
	for _, a := range edges() {
		mustFrame(t, []int{a}, framed([]int{a}))
		for _, b := range edges() {
			mustFrame(t, []int{a, b}, framed([]int{a, b}))
			for _, c := range edges() {
				l := []int{a, b, c}
				mustFrame(t, l, framed(l))
				mustUnframe(t, framed(l), l)
			}
		}
	}
}

func TestFrameOfAny(t *testing.T) {
	chance := rand.New(rand.NewSource(5))
	for range 2000 {
		l := someInts(chance, chance.Intn(30))
		mustFrame(t, l, framed(l))
		mustUnframe(t, framed(l), l)
	}
	for _, many := range []int{247, 248, 255, 256, 4095, 4096} {
		for range 3 {
			l := someInts(chance, many)
			mustFrame(t, l, framed(l))
			mustUnframe(t, framed(l), l)
		}
	}
}

func TestFrameOfTooMany(t *testing.T) {
	for _, many := range []int{4097, 4098, 8192, 65536, 100000} {
		for _, n := range []int{0, -5, math.MaxInt} {
			b, e := Frame(slices.Repeat([]int{n}, many))
			if e != api.ErrLong || len(b) != 0 {
				t.Errorf("Frame of %d integers is %d bytes and error %d", many, len(b), e)
			}
		}
	}
}

// frame is bytes in the form of a Frame, be there such a list or not.
func frame(many uint64, least int, width uint64, rest ...byte) []byte {
	return append(octets.Num(octets.Int(octets.Num(nil, many), least), width), rest...)
}

// Bytes that are no Frame: the forms that a Frame could have, but for one thing.
func TestUnframeOfWrongForms(t *testing.T) {
	ff := bytes.Repeat([]byte{255}, 8)
	for _, b := range [][]byte{
		nil,
		{},
		{0, 0},                 // bytes behind the empty list
		{0, 0, 0},              // a minimum and a width of the empty list
		{2},                    // no minimum
		{2, 14},                // no width
		{2, 14, 0, 0},          // a byte too many, with width 0
		{2, 14, 0, 255},        //
		{2, 6, 2},              // a byte too few
		{2, 6, 2, 8, 0},        // a byte too many
		{2, 6, 2, 24},          // an unused bit
		{2, 6, 2, 136},         // the last one
		{2, 6, 2, 9},           // the minimum is less than both
		{2, 4, 3, 25},          // so here: 3 and 5, by 1 and 3
		{1, 14, 1, 1},          // the minimum is less than the one
		{1, 14, 1, 0},          // the width is greater than need be
		{2, 14, 1, 0},          // so here
		{2, 14, 8, 0, 0},       // and here
		{2, 14, 8, 0, 127},     // and here
		{2, 6, 3, 16},          // and here
		{1, 14, 65, 0},         // a width of more than 64
		{248, 0},               // too few bytes of the length
		{248, 2, 14, 0},        // a length that is not its shortest encoding
		{249, 0, 2, 14, 0},     // so here
		{2, 248, 14, 0},        // a minimum
		{2, 14, 248, 0},        // a width
		{2, 6, 248, 2, 8},      // a width
		{2, 255, 255, 255, 14}, // too few bytes of the minimum
		{255}, {247}, {1, 247}, {1, 0, 247}, {1, 0, 255},
		frame(4097, 0, 0),
		frame(1<<32+2, 7, 0), // lengths that a smaller integer could take for others
		frame(1<<63, 7, 0),
		frame(1<<63+1, 7, 0),
		frame(1<<64-1, 7, 0),
		frame(1<<61, 7, 0),
		frame(1<<61, 7, 8),
		frame(1<<61+1, 7, 8, 0),
		frame(2, 3, 1<<32+2, 8), // and widths
		frame(2, 3, 1<<63+2, 8),
		frame(2, 3, 1<<64-1, 8),
		frame(2, 3, 1<<63, 8),
		frame(2, 3, 256+2, 8),
		frame(2, math.MaxInt, 1, 2), // a sum that is no int
		frame(2, math.MaxInt, 2, 8), //
		frame(2, math.MaxInt-1, 2, 8),
		frame(2, 0, 64, append(make([]byte, 8), ff...)...),
		frame(2, 1, 64, append(make([]byte, 8), ff...)...),
		frame(2, math.MinInt+1, 64, append(make([]byte, 8), ff...)...),
		frame(2, math.MinInt, 64, append(ff, ff...)...), // no difference is 0
		frame(1, 0, 64, ff...),
		frame(1, -1, 64, ff...),
	} {
		if l, ok := unframed(b); ok {
			t.Fatalf("the test is wrong: %d is the Frame of %d", b, l)
		}
		mustNotUnframe(t, b)
	}
}

// What is as near to those as can be, but is a Frame.
func TestUnframeOfEdges(t *testing.T) {
	ff := bytes.Repeat([]byte{255}, 8)
	mustUnframe(t, frame(4096, 0, 0), make([]int, 4096))
	mustUnframe(t, frame(2, math.MaxInt-1, 1, 2), []int{math.MaxInt - 1, math.MaxInt})
	mustUnframe(t, frame(2, math.MaxInt-1, 1, 1), []int{math.MaxInt, math.MaxInt - 1})
	mustUnframe(t, frame(2, math.MinInt, 64, append(make([]byte, 8), ff...)...), []int{math.MinInt, math.MaxInt})
	mustUnframe(t, frame(3, math.MaxInt, 0), []int{math.MaxInt, math.MaxInt, math.MaxInt})
	mustUnframe(t, []byte{2, 14, 8, 0, 128}, []int{7, 135})
}

// mustUnframeAs tells unless Unframe answers as the parts of b tell.
func mustUnframeAs(t *testing.T, b []byte) bool {
	t.Helper()
	want, ok := unframed(b)
	if ok {
		mustUnframe(t, b, want)
		mustFrame(t, want, b)
	} else {
		mustNotUnframe(t, b)
	}
	return ok
}

// All bytes of at most two, and all of at most five of a few sorts.
func TestUnframeOfAllShortBytes(t *testing.T) {
	mustUnframeAs(t, nil)
	for one := range 256 {
		mustUnframeAs(t, []byte{byte(one)})
		for two := range 256 {
			mustUnframeAs(t, []byte{byte(one), byte(two)})
		}
	}
	sorts := []byte{0, 1, 2, 3, 4, 8, 64, 128, 247, 248, 255}
	found := 0
	for _, a := range sorts {
		for _, b := range sorts {
			for _, c := range sorts {
				for _, d := range sorts {
					for _, e := range sorts {
						all := []byte{a, b, c, d, e}
						for size := 3; size <= 5; size++ {
							if mustUnframeAs(t, all[:size]) {
								found++
							}
						}
					}
				}
			}
		}
	}
	if found == 0 {
		t.Error("none of the bytes were a Frame")
	}
}

// Frames with one byte changed, or cut off anywhere, or with bytes behind.
func TestUnframeOfSpoiltFrames(t *testing.T) {
	chance := rand.New(rand.NewSource(6))
	for range 300 {
		b := framed(someInts(chance, 1+chance.Intn(12)))
		for i := range b {
			spoilt := slices.Clone(b)
			spoilt[i] ^= byte(1 + chance.Intn(255))
			mustUnframeAs(t, spoilt)
			spoilt[i] = b[i] ^ 1<<chance.Intn(8)
			mustUnframeAs(t, spoilt)
			mustNotUnframe(t, b[:i])
		}
		mustNotUnframe(t, append(slices.Clone(b), 0))
		mustNotUnframe(t, append(slices.Clone(b), byte(chance.Intn(256))))
	}
}

// A great many bytes are no Frame.
func TestUnframeOfManyBytes(t *testing.T) {
	for _, c := range []byte{0, 1, 64, 247, 248, 255} {
		b := bytes.Repeat([]byte{c}, 1<<20)
		if l, e := Unframe(b); e != api.ErrCorrupt || len(l) != 0 {
			t.Errorf("Unframe of %d, a million times, is %d integers and error %d", c, len(l), e)
		}
	}
}

// Arguments are neither changed nor kept, nor read beyond their length; answers are memory of their own.
func TestFramesOwnTheirResults(t *testing.T) {
	numbers := []int{5, 3, 9, math.MinInt}
	want := framed([]int{5, 3, 9})
	kept, _ := Frame(numbers[:3])
	for range 2 {
		b, e := Frame(numbers[:3])
		if e != api.OK || !bytes.Equal(b, want) {
			t.Fatalf("Frame is %d and error %d, not %d", b, e, want)
		}
		clear(b[:cap(b)])
	}
	if !slices.Equal(numbers, []int{5, 3, 9, math.MinInt}) {
		t.Errorf("Frame changed its argument's memory: %d", numbers)
	}
	clear(numbers)
	if !bytes.Equal(kept, want) {
		t.Errorf("what Frame answered became %d", kept)
	}
	memory := append(slices.Clone(want), 0, 255)
	was := slices.Clone(memory)
	list, _ := Unframe(memory[:len(want)])
	for range 2 {
		l, e := Unframe(memory[:len(want)])
		if e != api.OK || !slices.Equal(l, []int{5, 3, 9}) {
			t.Fatalf("Unframe is %d and error %d", l, e)
		}
		clear(l[:cap(l)])
	}
	if !bytes.Equal(memory, was) {
		t.Errorf("Unframe changed its argument's memory: %d", memory)
	}
	mustNotUnframe(t, memory[:len(want)-1]) // the byte that is missing lies beyond the length
	clear(memory)
	if !slices.Equal(list, []int{5, 3, 9}) {
		t.Errorf("what Unframe answered became %d", list)
	}
}
