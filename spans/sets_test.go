package spans

import (
	"fmt"
	"math/rand"
	"slices"
	"testing"

	"warp/api"
)

// P7.2: And, Or and Minus.

// setCall is a call on two lists, and which positions it wants.
type setCall struct {
	name string
	call func(a, b []api.Span) ([]api.Span, api.Errno)
	in   func(inA, inB bool) bool
}

// setCalls is the three calls on two lists.
func setCalls() []setCall {
	return []setCall{
		{"And", And, func(inA, inB bool) bool { return inA && inB }},
		{"Or", Or, func(inA, inB bool) bool { return inA || inB }},
		{"Minus", Minus, func(inA, inB bool) bool { return inA && !inB }},
	}
}

// about tells of a call.
func (c setCall) about(a, b []api.Span) string {
	return fmt.Sprintf("%s(%v, %v)", c.name, a, b)
}

// wanted is what c wants of both sets, position by position.
func (c setCall) wanted(a, b *set) []api.Span {
	var s set
	for place := range s {
		s[place] = c.in(a[place], b[place])
	}
	return s.spans()
}

// The chapter's examples, and pairs of spans that lie in every way to each other.
func TestSetsOfTwo(t *testing.T) {
	for _, c := range []struct{ a, b, and, or, minus []api.Span }{
		{spans(0, 5), spans(3, 9), spans(3, 5), spans(0, 9), spans(0, 3)},
		{spans(0, 9), spans(3, 5), spans(3, 5), spans(0, 9), spans(0, 3, 5, 9)},
		{spans(3, 5), spans(0, 9), spans(3, 5), spans(0, 9), nil},
		{spans(0, 3), spans(3, 9), nil, spans(0, 9), spans(0, 3)},
		{spans(3, 9), spans(0, 3), nil, spans(0, 9), spans(3, 9)},
		{spans(0, 3), spans(4, 9), nil, spans(0, 3, 4, 9), spans(0, 3)},
		{spans(4, 9), spans(0, 3), nil, spans(0, 3, 4, 9), spans(4, 9)},
		{spans(2, 7), spans(2, 7), spans(2, 7), spans(2, 7), nil},
		{spans(2, 7), spans(2, 4), spans(2, 4), spans(2, 7), spans(4, 7)},
		{spans(2, 7), spans(4, 7), spans(4, 7), spans(2, 7), spans(2, 4)},
		{nil, nil, nil, nil, nil},
		{spans(2, 7), nil, nil, spans(2, 7), spans(2, 7)},
		{nil, spans(2, 7), nil, spans(2, 7), nil},
		{spans(0, 2, 3, 5), spans(2, 3), nil, spans(0, 5), spans(0, 2, 3, 5)},
		{spans(2, 3), spans(0, 2, 3, 5), nil, spans(0, 5), spans(2, 3)},
		{spans(0, 4, 6, 9), spans(2, 7), spans(2, 4, 6, 7), spans(0, 9), spans(0, 2, 7, 9)},
		{spans(0, 9), spans(0, 1, 2, 3, 8, 9), spans(0, 1, 2, 3, 8, 9), spans(0, 9), spans(1, 2, 3, 8)},
		{spans(0, 4096), spans(1, 4095), spans(1, 4095), spans(0, 4096), spans(0, 1, 4095, 4096)},
		{spans(0, 1), spans(4095, 4096), nil, spans(0, 1, 4095, 4096), spans(0, 1)},
	} {
		for i, want := range [][]api.Span{c.and, c.or, c.minus} {
			call := setCalls()[i]
			l, e := call.call(c.a, c.b)
			mustBe(t, call.about(c.a, c.b), l, e, want)
		}
	}
}

// All pairs of sets of six positions, at the beginning, further on and at the end.
func TestAllPairsOfSmallSets(t *testing.T) {
	for _, base := range []int{0, 1, api.MaxRows - 6} {
		for one := range 1 << 6 {
			for two := range 1 << 6 {
				a, b := fromBits(base, one), fromBits(base, two)
				for _, c := range setCalls() {
					l, e := c.call(a.spans(), b.spans())
					mustBe(t, c.about(a.spans(), b.spans()), l, e, c.wanted(a, b))
				}
			}
		}
	}
}

func TestPairsOfAnySets(t *testing.T) {
	chance := rand.New(rand.NewSource(4))
	for range 300 {
		a, b := someSpans(chance), someSpans(chance)
		for _, c := range setCalls() {
			l, e := c.call(a, b)
			mustBe(t, c.about(a, b), l, e, c.wanted(marked(a), marked(b)))
		}
	}
}

func TestPairsAtTheEdges(t *testing.T) {
	for _, a := range valid() {
		for _, b := range valid() {
			for _, c := range setCalls() {
				l, e := c.call(a, b)
				mustBe(t, c.about(a, b), l, e, c.wanted(marked(a), marked(b)))
			}
		}
	}
}

// A list that is not valid is refused on either side, also beside one that has no positions or is not valid either.
func TestWrongLists(t *testing.T) {
	others := slices.Concat(valid(), wrong())
	for _, bad := range wrong() {
		for _, c := range setCalls() {
			for _, other := range others {
				l, e := c.call(bad, other)
				mustNotBe(t, c.name+" with a wrong list ahead", l, e)
				l, e = c.call(other, bad)
				mustNotBe(t, c.name+" with a wrong list behind", l, e)
			}
		}
	}
}

// beyond is l as the beginning of greater memory, in which valid spans follow, and that memory.
func beyond(l []api.Span) (front, memory []api.Span) {
	memory = slices.Concat(l, spans(100, 101, 103, 104, 106, 109))
	return memory[:len(l)], memory
}

// Lists are neither changed nor kept, nor read beyond their length; answers are memory of their own.
func TestSetsOwnTheirResults(t *testing.T) {
	for _, pair := range [][2][]api.Span{
		{spans(0, 5, 8, 9), spans(3, 9, 20, 30)},
		{spans(0, 5), nil},
		{nil, spans(0, 5)},
		{spans(0, 5), spans(0, 5)},
		{spans(0, 5, 7, 9), spans(5, 7)},
	} {
		for _, c := range setCalls() {
			a, memoryA := beyond(pair[0])
			b, memoryB := beyond(pair[1])
			wasA, wasB := slices.Clone(memoryA), slices.Clone(memoryB)
			want := c.wanted(marked(a), marked(b))
			one, e1 := c.call(a, b)
			two, e2 := c.call(a, b)
			mustBe(t, c.about(a, b), one, e1, want)
			clear(one[:cap(one)])
			if !slices.Equal(memoryA, wasA) || !slices.Equal(memoryB, wasB) {
				t.Errorf("%s: a list's memory was changed", c.about(a, b))
			}
			mustBe(t, c.about(a, b), two, e2, want)
			clear(memoryA)
			clear(memoryB)
			mustBe(t, c.name+", kept", two, e2, want)
		}
	}
}

// The same list on both sides, and two parts of one list's memory.
func TestSetsOfOneMemory(t *testing.T) {
	l := spans(0, 2, 4, 6, 8, 10)
	was := slices.Clone(l)
	for _, c := range setCalls() {
		for _, pair := range [][2][]api.Span{{l, l}, {l[:2], l[1:]}, {l[1:], l[:2]}, {l[:0], l}} {
			got, e := c.call(pair[0], pair[1])
			mustBe(t, c.about(pair[0], pair[1]), got, e, c.wanted(marked(pair[0]), marked(pair[1])))
			clear(got[:cap(got)])
			if !slices.Equal(l, was) {
				t.Fatalf("%s: the list's memory was changed", c.about(pair[0], pair[1]))
			}
		}
	}
}

// The calls of one list leave it as it is, too, and read nothing beyond its length.
func TestListsOwnTheirResults(t *testing.T) {
	places := []int{9, 3, 3, 4, -1, 7}
	for range 2 {
		l, e := Of(places[:4])
		mustBe(t, "Of", l, e, spans(3, 5, 9, 10))
		clear(l[:cap(l)])
	}
	if !slices.Equal(places, []int{9, 3, 3, 4, -1, 7}) {
		t.Errorf("Of changed its argument's memory: %d", places)
	}
	memory := spans(3, 5, 9, 10, 9, 10)
	for range 2 {
		front := memory[:2]
		mustHold(t, front, []int{3, 4, 9})
		got := List(front)
		clear(got[:cap(got)])
	}
	if !slices.Equal(memory, spans(3, 5, 9, 10, 9, 10)) {
		t.Errorf("a call changed its argument's memory: %v", memory)
	}
}
