package spans

import (
	"math/rand"
	"slices"
	"testing"

	"warp/api"
)

// P7.1: which lists are valid, and the positions of lists.

func TestRight(t *testing.T) {
	for _, l := range valid() {
		if !Right(l) {
			t.Errorf("Right(%v) is false", l)
		}
	}
	for _, l := range wrong() {
		if Right(l) {
			t.Errorf("Right(%v) is true", l)
		}
	}
}

// asItMust tells whether each span of l contains something, all lie within the positions, and l is the one list of what it contains.
func asItMust(l []api.Span) bool {
	for _, s := range l {
		if s.From < 0 || s.To > api.MaxRows {
			return false
		}
	}
	return slices.Equal(marked(l).spans(), l)
}

// everyList calls f with all lists of so many spans whose borders lie from low up to high.
func everyList(many, low, high int, f func(l []api.Span)) {
	borders := make([]int, 2*many)
	var next func(at int)
	next = func(at int) {
		if at == len(borders) {
			f(spans(borders...))
			return
		}
		for borders[at] = low; borders[at] <= high; borders[at]++ {
			next(at + 1)
		}
	}
	next(0)
}

func TestRightOfAllShortLists(t *testing.T) {
	for _, c := range []struct{ many, low, high int }{
		{0, 0, 0},
		{1, -3, 5},
		{1, api.MaxRows - 5, api.MaxRows + 3},
		{2, -1, 6},
		{2, api.MaxRows - 5, api.MaxRows + 1},
		{3, 0, 5},
	} {
		taken := 0
		everyList(c.many, c.low, c.high, func(l []api.Span) {
			want := asItMust(l)
			if got := Right(l); got != want {
				t.Fatalf("Right(%v) is %t", l, got)
			}
			if want {
				taken++
			}
		})
		if taken == 0 {
			t.Errorf("no list of %d spans from %d to %d is valid", c.many, c.low, c.high)
		}
	}
}

// In a long valid list, a wrong span is found wherever it stands, and so are two that touch.
func TestRightLooksAtEverySpan(t *testing.T) {
	chance := rand.New(rand.NewSource(1))
	for range 20 {
		l := someSpans(chance)
		for i := range l {
			for _, s := range []api.Span{{}, {From: l[i].To, To: l[i].From}, {From: l[i].From, To: l[i].From}, {From: -1, To: l[i].To}, {From: l[i].From, To: api.MaxRows + 1}} {
				was := l[i]
				l[i] = s
				if Right(l) {
					t.Fatalf("Right is true with the span %v in place of %v", s, was)
				}
				l[i] = was
			}
			if i > 0 {
				was := l[i].From
				l[i].From = l[i-1].To
				if Right(l) {
					t.Fatalf("Right is true with spans that touch at %d", l[i].From)
				}
				l[i].From = was
			}
		}
		if !Right(l) {
			t.Errorf("Right(%v) is false", l)
		}
	}
}

// The chapter's example.
func TestOfExample(t *testing.T) {
	l, e := Of([]int{5, 3, 4, 9})
	mustBe(t, "Of", l, e, spans(3, 6, 9, 10))
}

func TestOf(t *testing.T) {
	for _, c := range []struct {
		places []int
		want   []api.Span
	}{
		{nil, nil},
		{[]int{}, nil},
		{[]int{0}, spans(0, 1)},
		{[]int{0, 0, 0}, spans(0, 1)},
		{[]int{1, 0}, spans(0, 2)},
		{[]int{2, 0}, spans(0, 1, 2, 3)},
		{[]int{2, 0, 1}, spans(0, 3)},
		{[]int{7, 7, 6, 7, 5, 5}, spans(5, 8)},
		{[]int{api.MaxRows - 1}, spans(api.MaxRows-1, api.MaxRows)},
		{[]int{api.MaxRows - 1, 0}, spans(0, 1, api.MaxRows-1, api.MaxRows)},
		{[]int{api.MaxRows - 1, api.MaxRows - 2, api.MaxRows - 4}, spans(api.MaxRows-4, api.MaxRows-3, api.MaxRows-2, api.MaxRows)},
		{[]int{63, 64, 255, 256, 257, 1023, 1024}, spans(63, 65, 255, 258, 1023, 1025)},
	} {
		l, e := Of(c.places)
		mustBe(t, "Of", l, e, c.want)
	}
}

// One integer that is no position spoils all others, wherever it stands.
func TestOfWrong(t *testing.T) {
	for _, n := range odd() {
		for _, places := range [][]int{{n}, {n, 0}, {0, n}, {5, n, 5}, {1, 2, 3, n}, {n, n, -n}} {
			l, e := Of(places)
			mustNotBe(t, "Of", l, e)
		}
	}
}

// All sets of ten positions, at the beginning and at the end, in each direction and twice.
func TestOfAllSmallSets(t *testing.T) {
	for _, base := range []int{0, 1, api.MaxRows - 10} {
		for mask := range 1 << 10 {
			s := fromBits(base, mask)
			want, places := s.spans(), s.places()
			l, e := Of(places)
			mustBe(t, "Of in order", l, e, want)
			l, e = Of(slices.Concat(places, places))
			mustBe(t, "Of what stands twice", l, e, want)
			slices.Reverse(places)
			l, e = Of(places)
			mustBe(t, "Of against the order", l, e, want)
		}
	}
}

func TestOfManyPlaces(t *testing.T) {
	chance := rand.New(rand.NewSource(2))
	for n := range 200 {
		var s set
		places := make([]int, chance.Intn(1+60*n))
		for i := range places {
			places[i] = chance.Intn(api.MaxRows)
			s[places[i]] = true
		}
		l, e := Of(places)
		mustBe(t, "Of", l, e, s.spans())
	}
}

// mustHold tells unless List, Has and Count tell the positions want of l.
func mustHold(t *testing.T, l []api.Span, want []int) {
	t.Helper()
	if got := List(l); !slices.Equal(got, want) {
		t.Fatalf("List(%v) is %d, not %d", l, got, want)
	}
	if got := Count(l); got != len(want) {
		t.Fatalf("Count(%v) is %d, not %d", l, got, len(want))
	}
	next := 0
	for place := -3; place < api.MaxRows+3; place++ {
		in := next < len(want) && want[next] == place
		if in {
			next++
		}
		if Has(l, place) != in {
			t.Fatalf("Has(%v, %d) is %t", l, place, !in)
		}
	}
	for _, place := range odd() {
		if Has(l, place) {
			t.Fatalf("Has(%v, %d) is true", l, place)
		}
	}
}

func TestPlacesOfLists(t *testing.T) {
	mustHold(t, spans(3, 6, 9, 10), []int{3, 4, 5, 9})
	mustHold(t, spans(0, 1, 4094, 4096), []int{0, 4094, 4095})
	for _, l := range valid() {
		mustHold(t, l, marked(l).places())
	}
	if n := Count(spans(0, api.MaxRows)); n != api.MaxRows {
		t.Errorf("Count of all positions is %d", n)
	}
}

// What is not valid has no positions at all, not even those of the spans that are as they must be.
func TestPlacesOfWrongLists(t *testing.T) {
	for _, l := range wrong() {
		mustHold(t, l, nil)
		for _, s := range l[:min(len(l), 5)] {
			if Has(l, s.From) || Has(l, s.To-1) || Has(l, s.To) {
				t.Fatalf("Has(%v) is true of a border of %v", l, s)
			}
		}
	}
}

func TestPlacesOfAnyLists(t *testing.T) {
	chance := rand.New(rand.NewSource(3))
	for range 200 {
		l := someSpans(chance)
		mustHold(t, l, marked(l).places())
		back, e := Of(List(l))
		mustBe(t, "Of List", back, e, l)
	}
}
