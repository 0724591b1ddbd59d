package zone

import (
	"math"
	"testing"

	"warp/api"
)

// P13.1: zones merged.

// mustMerge tells unless the Merge of a and b is want.
func mustMerge(t *testing.T, a, b, want api.Zone) {
	t.Helper()
	if z := Merge(a, b); z != want {
		t.Fatalf("Merge(%v, %v) is %v, not %v", shownZone(a), shownZone(b), shownZone(z), shownZone(want))
	}
}

func TestMerge(t *testing.T) {
	a := api.Zone{Least: num(3), Most: num(5), Nulls: 1, Many: 3}
	for _, c := range []struct{ b, want api.Zone }{
		{empty, a},
		{a, api.Zone{Least: num(3), Most: num(5), Nulls: 2, Many: 6}},
		{api.Zone{Nulls: 7, Many: 7}, api.Zone{Least: num(3), Most: num(5), Nulls: 8, Many: 10}},
		{api.Zone{Least: num(1), Most: num(9), Many: 2}, api.Zone{Least: num(1), Most: num(9), Nulls: 1, Many: 5}},
		{api.Zone{Least: num(4), Most: num(4), Many: 1}, api.Zone{Least: num(3), Most: num(5), Nulls: 1, Many: 4}},
		{api.Zone{Least: num(1), Most: num(2), Many: 2}, api.Zone{Least: num(1), Most: num(5), Nulls: 1, Many: 5}},
		{api.Zone{Least: num(6), Most: num(7), Many: 2}, api.Zone{Least: num(3), Most: num(7), Nulls: 1, Many: 5}},
		{api.Zone{Least: num(math.MinInt), Most: num(math.MaxInt), Many: 2}, api.Zone{Least: num(math.MinInt), Most: num(math.MaxInt), Nulls: 1, Many: 5}},
	} {
		mustMerge(t, a, c.b, c.want)
		mustMerge(t, c.b, a, c.want)
	}
	mustMerge(t, empty, empty, empty)
	mustMerge(t, api.Zone{Nulls: 1, Many: 1}, api.Zone{Nulls: 2, Many: 2}, api.Zone{Nulls: 3, Many: 3})
}

// Zones need not be those of any values: a bound whose Kind is Null is left out, whatever else it holds, and each bound for itself.
func TestMergeOddBounds(t *testing.T) {
	odd, other := api.Value{Kind: api.Null, N: -5, S: "a"}, api.Value{Kind: api.Null, N: 7}
	for _, c := range []struct{ a, b, want api.Zone }{
		{api.Zone{Least: odd, Most: odd}, empty, empty},
		{api.Zone{Least: odd, Most: odd}, api.Zone{Least: other, Most: other}, empty},
		{api.Zone{Least: odd, Most: other, Many: 4}, api.Zone{Least: num(-9), Most: num(-9)}, api.Zone{Least: num(-9), Most: num(-9), Many: 4}},
		{api.Zone{Least: num(3), Most: odd}, api.Zone{Least: odd, Most: num(1)}, api.Zone{Least: num(3), Most: num(1)}},
		{api.Zone{Least: num(3)}, api.Zone{Least: num(2)}, api.Zone{Least: num(2)}},
		{api.Zone{Most: num(3)}, api.Zone{Most: num(2)}, api.Zone{Most: num(3)}},
		{api.Zone{Least: num(9), Most: num(1)}, api.Zone{Least: num(8), Most: num(2)}, api.Zone{Least: num(8), Most: num(2)}},
		{api.Zone{Least: text("a"), Most: text("a")}, api.Zone{Least: num(9), Most: num(9)}, api.Zone{Least: num(9), Most: text("a")}},
		{api.Zone{Least: api.Value{Kind: 255}, Most: api.Value{Kind: 255}}, api.Zone{Least: api.Value{Kind: 4, N: 9}, Most: api.Value{Kind: 4, N: 9}}, api.Zone{Least: api.Value{Kind: 4, N: 9}, Most: api.Value{Kind: 255}}},
	} {
		mustMerge(t, c.a, c.b, c.want)
		mustMerge(t, c.b, c.a, c.want)
	}
}

// lesser is the one of a and b that comes first, those left out that are Null.
func lesser(a, b api.Value, ahead int) api.Value {
	var there []api.Value
	for _, v := range []api.Value{a, b} {
		if v.Kind != 0 {
			there = append(there, v)
		}
	}
	switch {
	case len(there) == 0:
		return null
	case len(there) == 2 && before(a, b) != ahead:
		return there[1]
	}
	return there[0]
}

func TestMergeAllBounds(t *testing.T) {
	for _, v := range allValues() {
		for _, w := range allValues() {
			want := api.Zone{Least: lesser(v, w, -1), Most: lesser(v, w, 1), Nulls: 5, Many: 15}
			mustMerge(t, api.Zone{Least: v, Most: v, Nulls: 2, Many: 5}, api.Zone{Least: w, Most: w, Nulls: 3, Many: 10}, want)
			// The least and the greatest ones are not held against each other.
			want = api.Zone{Least: lesser(v, null, -1), Most: lesser(null, w, 1)}
			mustMerge(t, api.Zone{Least: v}, api.Zone{Most: w}, want)
			mustMerge(t, api.Zone{Least: v, Most: w}, empty, want)
		}
	}
}

// Sums wrap round as Go's do.
func TestMergeCounts(t *testing.T) {
	counts := []int{math.MinInt, math.MinInt + 1, -4097, -1, 0, 1, 2, 4096, 4097, math.MaxInt - 1, math.MaxInt}
	for _, n := range counts {
		for _, m := range counts {
			mustMerge(t, api.Zone{Nulls: n, Many: m}, api.Zone{Nulls: m, Many: n}, api.Zone{Nulls: n + m, Many: n + m})
			mustMerge(t, api.Zone{Nulls: n, Many: m}, api.Zone{Nulls: 1, Many: 2}, api.Zone{Nulls: n + 1, Many: m + 2})
		}
	}
	mustMerge(t, api.Zone{Nulls: math.MaxInt, Many: math.MinInt}, api.Zone{Nulls: 1, Many: -1}, api.Zone{Nulls: math.MinInt, Many: math.MaxInt})
}
