package spans

import (
	"math"
	"math/rand"
	"slices"
	"testing"

	"warp/api"
)

// What the tests of this package share.

// spans is the spans between pairs of borders: each from one on up to the next one.
func spans(borders ...int) []api.Span {
	var l []api.Span
	for i := 0; i+1 < len(borders); i += 2 {
		l = append(l, api.Span{From: borders[i], To: borders[i+1]})
	}
	return l
}

// set tells of each position whether it is contained.
type set [api.MaxRows]bool

// marked is the set of the positions of l, which is valid, place by place.
func marked(l []api.Span) *set {
	var s set
	for _, x := range l {
		for place := x.From; place < x.To; place++ {
			s[place] = true
		}
	}
	return &s
}

// spans is the one valid list of what s contains: a span begins and ends where its neighbour is of the other sort.
func (s *set) spans() []api.Span {
	var l []api.Span
	for place := range s {
		if s[place] && (place == 0 || !s[place-1]) {
			l = append(l, api.Span{From: place})
		}
		if s[place] && (place == api.MaxRows-1 || !s[place+1]) {
			l[len(l)-1].To = place + 1
		}
	}
	return l
}

// places is what s contains, in increasing order.
func (s *set) places() []int {
	var l []int
	for place, in := range s {
		if in {
			l = append(l, place)
		}
	}
	return l
}

// fromBits is the set of those positions, from base on, whose bits are 1 in mask.
func fromBits(base, mask int) *set {
	var s set
	for i := base; mask > 0; i++ {
		s[i] = mask&1 == 1
		mask >>= 1
	}
	return &s
}

// someSpans is a valid list by chance: of many short spans, or of few long ones.
func someSpans(chance *rand.Rand) []api.Span {
	longest := 1 << chance.Intn(11)
	var l []api.Span
	at := chance.Intn(longest + 1)
	for at < api.MaxRows {
		to := min(at+1+chance.Intn(longest), api.MaxRows)
		l = append(l, api.Span{From: at, To: to})
		at = to + 1 + chance.Intn(longest)
	}
	return l
}

// valid is lists that are valid, among them those at the edges.
func valid() [][]api.Span {
	every := make([]api.Span, api.MaxRows/2)
	for i := range every {
		every[i] = api.Span{From: 2 * i, To: 2*i + 1}
	}
	return [][]api.Span{
		nil,
		{},
		spans(0, 1),
		spans(0, 2),
		spans(1, 2),
		spans(0, api.MaxRows),
		spans(0, api.MaxRows-1),
		spans(1, api.MaxRows),
		spans(api.MaxRows-1, api.MaxRows),
		spans(api.MaxRows-2, api.MaxRows-1),
		spans(0, 1, 2, 3),
		spans(0, 5, 6, 7, 9, 20),
		spans(0, 1, api.MaxRows-1, api.MaxRows),
		spans(0, 2000, 2001, api.MaxRows),
		every,
	}
}

// wrong is lists that are not valid.
func wrong() [][]api.Span {
	return [][]api.Span{
		spans(0, 0),
		spans(5, 5),
		spans(5, 4),
		spans(1, 0),
		spans(-1, 0),
		spans(-1, 1),
		spans(-2, -1),
		spans(0, -1),
		spans(0, api.MaxRows+1),
		spans(api.MaxRows, api.MaxRows),
		spans(api.MaxRows, api.MaxRows+1),
		spans(api.MaxRows+5, 3),
		spans(math.MinInt, 1),
		spans(0, math.MaxInt),
		spans(math.MinInt, math.MaxInt),
		spans(math.MaxInt, math.MinInt),
		spans(0, math.MinInt),
		spans(1<<32, 1<<32+1),
		spans(0, 1<<32+1),
		spans(-1<<32, 1),
		spans(0, 3, 3, 5),                   // two that touch
		spans(0, 3, 2, 5),                   // two that overlap
		spans(0, 9, 3, 5),                   // one in the other
		spans(3, 5, 3, 5),                   // the same twice
		spans(3, 5, 0, 1),                   // not in order
		spans(3, 5, 1, 3),                   // not in order, and they touch
		spans(0, 1, 2, 3, 3, 4),             // the last of three touches
		spans(0, 1, 5, 6, 3, 4),             // the last of three is not in order
		spans(0, 1, 1, 1, 2, 3),             // an empty one between two
		spans(0, 1, 2, 2),                   // an empty one at the end
		spans(0, 1, 2, 3, 4, api.MaxRows+1), // beyond the end
		spans(0, api.MaxRows, 0, 1),         // the whole, and more
		spans(0, api.MaxRows, api.MaxRows+1, math.MaxInt), // the whole, and what lies beyond
		spans(-1, 0, 1, 2),
		spans(0, 1, -5, 3),
		make([]api.Span, 3),
		make([]api.Span, 100000),
	}
}

// odd is integers that are no positions.
func odd() []int {
	return []int{-1, -2, -api.MaxRows, api.MaxRows, api.MaxRows + 1, 1 << 16, 1 << 31, 1 << 32, 1<<32 + 1, -1 << 31, -1 << 32, 1 - 1<<32, math.MaxInt - 1, math.MaxInt, math.MinInt, math.MinInt + 1}
}

// mustBe tells unless what a call answered is the spans want.
func mustBe(t *testing.T, about string, got []api.Span, e api.Errno, want []api.Span) {
	t.Helper()
	if e != api.OK || !slices.Equal(got, want) {
		t.Fatalf("%s is %v and error %d, not %v", about, got, e, want)
	}
}

// mustNotBe tells unless what a call answered is ErrArg, with no spans beside it.
func mustNotBe(t *testing.T, about string, got []api.Span, e api.Errno) {
	t.Helper()
	if e != api.ErrArg || len(got) != 0 {
		t.Fatalf("%s is %v and error %d, not error %d", about, got, e, api.ErrArg)
	}
}
