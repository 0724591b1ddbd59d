package zone

import (
	"math"
	"math/rand"
	"slices"
	"testing"

	"warp/api"
)

// P13.1: the zone of a list.

// mustBeZone tells unless Of has that zone for l.
func mustBeZone(t *testing.T, l []api.Value, want api.Zone) {
	t.Helper()
	if z := Of(l); z != want {
		t.Fatalf("Of(%v) of %d values is %v, not %v", shownList(l), len(l), shownZone(z), shownZone(want))
	}
}

func TestOf(t *testing.T) {
	for _, c := range []struct {
		l    []api.Value
		want api.Zone
	}{
		{nil, empty},
		{[]api.Value{}, empty},
		{[]api.Value{num(5), null, num(3)}, api.Zone{Least: num(3), Most: num(5), Nulls: 1, Many: 3}},
		{[]api.Value{null}, api.Zone{Nulls: 1, Many: 1}},
		{[]api.Value{null, null}, api.Zone{Nulls: 2, Many: 2}},
		{[]api.Value{num(0)}, api.Zone{Least: num(0), Most: num(0), Many: 1}},
		{[]api.Value{truth(0)}, api.Zone{Least: truth(0), Most: truth(0), Many: 1}},
		{[]api.Value{text("")}, api.Zone{Least: text(""), Most: text(""), Many: 1}},
		{[]api.Value{truth(1), truth(0), truth(1)}, api.Zone{Least: truth(0), Most: truth(1), Many: 3}},
		{[]api.Value{num(5), num(7), num(6)}, api.Zone{Least: num(5), Most: num(7), Many: 3}},
		{[]api.Value{num(7), num(5), num(7), num(5)}, api.Zone{Least: num(5), Most: num(7), Many: 4}},
		{[]api.Value{num(0), num(-1)}, api.Zone{Least: num(-1), Most: num(0), Many: 2}},
		{[]api.Value{num(math.MaxInt), num(math.MinInt)}, api.Zone{Least: num(math.MinInt), Most: num(math.MaxInt), Many: 2}},
		{[]api.Value{null, null, num(-9), null}, api.Zone{Least: num(-9), Most: num(-9), Nulls: 3, Many: 4}},
		{[]api.Value{text("b"), text("ab"), null, text("a")}, api.Zone{Least: text("a"), Most: text("b"), Nulls: 1, Many: 4}},
		{[]api.Value{text("\xff"), text("é"), text("\x00")}, api.Zone{Least: text("\x00"), Most: text("\xff"), Many: 3}},
		{[]api.Value{text(longest() + "y"), text(longest() + "x")}, api.Zone{Least: text(longest() + "x"), Most: text(longest() + "y"), Many: 2}},
	} {
		mustBeZone(t, c.l, c.want)
	}
}

// Values of any kinds, valid or not, are ordered by Compare; of those whose Kind is Null nothing is kept but their number.
func TestOfWrongValues(t *testing.T) {
	odd := api.Value{Kind: api.Null, N: -5, S: "a"}
	great := api.Value{Kind: 255, N: -5, S: "a"}
	for _, c := range []struct {
		l    []api.Value
		want api.Zone
	}{
		{[]api.Value{odd}, api.Zone{Nulls: 1, Many: 1}},
		{[]api.Value{odd, num(5), odd}, api.Zone{Least: num(5), Most: num(5), Nulls: 2, Many: 3}},
		{[]api.Value{great}, api.Zone{Least: great, Most: great, Many: 1}},
		{[]api.Value{text("a"), great, truth(1), odd, num(9)}, api.Zone{Least: truth(1), Most: great, Nulls: 1, Many: 5}},
		{[]api.Value{truth(7), num(-7)}, api.Zone{Least: truth(7), Most: num(-7), Many: 2}},
		{[]api.Value{{Kind: api.Int, S: "b"}, {Kind: api.Int, S: "a"}}, api.Zone{Least: api.Value{Kind: api.Int, S: "a"}, Most: api.Value{Kind: api.Int, S: "b"}, Many: 2}},
	} {
		mustBeZone(t, c.l, c.want)
	}
	for _, l := range smallLists(allValues(), 2) {
		mustBeZone(t, l, zoneOf(l))
	}
}

func TestOfSmallLists(t *testing.T) {
	for _, kind := range kinds {
		for _, l := range smallLists(append(few(kind), null), 6) {
			mustBeZone(t, l, zoneOf(l))
		}
	}
}

// Lists may be longer than a table.
func TestOfLongLists(t *testing.T) {
	chance := rand.New(rand.NewSource(1))
	for range 300 {
		l := someList(chance, allValues(), chance.Intn(300))
		mustBeZone(t, l, zoneOf(l))
	}
	for _, many := range []int{4095, 4096, 4097, 70000} {
		mustBeZone(t, make([]api.Value, many), api.Zone{Nulls: many, Many: many})
		l := append(make([]api.Value, many), num(7), num(-7))
		mustBeZone(t, l, api.Zone{Least: num(-7), Most: num(7), Nulls: many, Many: many + 2})
	}
}

// The argument is neither changed nor read beyond its length.
func TestOfLeavesTheArgument(t *testing.T) {
	memory := []api.Value{num(5), null, num(3), num(1), num(9), null}
	was := slices.Clone(memory)
	for range 2 {
		mustBeZone(t, memory[:3], api.Zone{Least: num(3), Most: num(5), Nulls: 1, Many: 3})
		mustBeZone(t, memory[:0], empty)
	}
	if !slices.Equal(memory, was) {
		t.Errorf("Of made its argument %v", memory)
	}
}
