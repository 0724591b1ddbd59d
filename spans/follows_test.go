package spans

import (
	"fmt"
	"math/rand"
	"testing"

	"warp/api"
)

// P7.3: what follows from the other promises, for all valid lists.

// do is what a call that can't fail answers.
func do(t *testing.T, about string, call func(a, b []api.Span) ([]api.Span, api.Errno), a, b []api.Span) []api.Span {
	t.Helper()
	l, e := call(a, b)
	if e != api.OK || !Right(l) {
		t.Fatalf("%s of %v and %v is %v and error %d", about, a, b, l, e)
	}
	return l
}

// mustFollow tells unless P7.3 holds of a and b.
func mustFollow(t *testing.T, a, b []api.Span) {
	t.Helper()
	and, minus := do(t, "And", And, a, b), do(t, "Minus", Minus, a, b)
	mustBe(t, fmt.Sprintf("And of %v and %v", b, a), do(t, "And", And, b, a), api.OK, and)
	mustBe(t, fmt.Sprintf("Or of %v and %v", b, a), do(t, "Or", Or, b, a), api.OK, do(t, "Or", Or, a, b))
	mustBe(t, "what both parts share", do(t, "And", And, and, minus), api.OK, nil)
	mustBe(t, "both parts together", do(t, "Or", Or, and, minus), api.OK, a)
	if Count(and)+Count(minus) != Count(a) {
		t.Fatalf("%v and %v: the parts have %d and %d of %d positions", a, b, Count(and), Count(minus), Count(a))
	}
	for _, place := range List(a) {
		if Has(and, place) == Has(minus, place) || Has(and, place) != Has(b, place) {
			t.Fatalf("%v and %v: %d is in the wrong part", a, b, place)
		}
	}
}

func TestPartsOfSmallSets(t *testing.T) {
	for _, base := range []int{0, api.MaxRows - 5} {
		for one := range 1 << 5 {
			for two := range 1 << 5 {
				mustFollow(t, fromBits(base, one).spans(), fromBits(base, two).spans())
			}
		}
	}
}

func TestPartsOfAnySets(t *testing.T) {
	chance := rand.New(rand.NewSource(5))
	for range 60 {
		mustFollow(t, someSpans(chance), someSpans(chance))
	}
	for _, a := range valid()[:14] {
		for _, b := range valid()[:14] {
			mustFollow(t, a, b)
		}
	}
}
