package zone

import (
	"math"
	"slices"
	"testing"

	"warp/api"
)

// P13.1: what is the zone of a column's values.

// mustBeRight tells unless Right answers that.
func mustBeRight(t *testing.T, kind uint8, z api.Zone, want bool) {
	t.Helper()
	mustBe(t, Right(kind, z), want, "Right", kind, shownZone(z))
}

func TestRight(t *testing.T) {
	for _, kind := range kinds {
		values := some(kind)
		least, most := values[0], values[len(values)-1]
		mustBeRight(t, kind, api.Zone{Least: least, Most: most, Nulls: 0, Many: 2}, true)
		mustBeRight(t, kind, api.Zone{Least: least, Most: least, Nulls: 0, Many: 2}, true)
		mustBeRight(t, kind, api.Zone{Least: most, Most: most, Nulls: 1, Many: 3}, true)
		mustBeRight(t, kind, api.Zone{Least: most, Most: least, Nulls: 0, Many: 2}, false)
		mustBeRight(t, kind, api.Zone{Least: most, Most: least, Nulls: 0, Many: 3}, false)
		mustBeRight(t, kind, api.Zone{Least: null, Most: most, Nulls: 1, Many: 3}, false)
		mustBeRight(t, kind, api.Zone{Least: least, Most: null, Nulls: 1, Many: 3}, false)
		mustBeRight(t, kind, api.Zone{Least: null, Most: null, Nulls: 1, Many: 3}, false)
	}
	mustBeRight(t, api.Int, Of([]api.Value{num(5), null, num(3)}), true)
	mustBeRight(t, api.Text, Of([]api.Value{num(5), null, num(3)}), false)
}

// One value is its own minimum and maximum.
func TestRightOfOneValue(t *testing.T) {
	for _, kind := range kinds {
		for _, v := range some(kind) {
			for _, w := range some(kind) {
				for _, nulls := range []int{0, 1, 4095} {
					mustBeRight(t, kind, api.Zone{Least: v, Most: w, Nulls: nulls, Many: nulls + 1}, v == w)
				}
			}
		}
		mustBeRight(t, kind, api.Zone{Nulls: 0, Many: 1}, false)
	}
	for _, v := range wrongValues() {
		for _, kind := range kinds {
			mustBeRight(t, kind, api.Zone{Least: v, Most: v, Many: 1}, false)
		}
	}
}

// Without values, or with Nulls alone, there are no bounds.
func TestRightOfNulls(t *testing.T) {
	for _, kind := range kinds {
		for _, many := range []int{0, 1, 2, 4095, 4096} {
			mustBeRight(t, kind, api.Zone{Nulls: many, Many: many}, true)
			for _, v := range allValues()[1:] {
				mustBeRight(t, kind, api.Zone{Least: v, Most: v, Nulls: many, Many: many}, false)
				mustBeRight(t, kind, api.Zone{Least: v, Nulls: many, Many: many}, false)
				mustBeRight(t, kind, api.Zone{Most: v, Nulls: many, Many: many}, false)
			}
		}
		mustBeRight(t, kind, api.Zone{Nulls: 4097, Many: 4097}, false)
		mustBeRight(t, kind, api.Zone{Nulls: -1, Many: -1}, false)
	}
}

// The counts, around their limits and around what an int can hold.
func TestRightOfCounts(t *testing.T) {
	counts := []int{math.MinInt, math.MinInt + 1, -4096, -2, -1, 0, 1, 2, 3, 4094, 4095, 4096, 4097, 4098, 1 << 32, math.MaxInt - 1, math.MaxInt}
	for _, kind := range kinds {
		v := few(kind)[1]
		for _, nulls := range counts {
			for _, many := range counts {
				mayBe := nulls >= 0 && nulls <= many && many <= 4096
				mustBeRight(t, kind, api.Zone{Least: v, Most: v, Nulls: nulls, Many: many}, mayBe && nulls < many)
				mustBeRight(t, kind, api.Zone{Nulls: nulls, Many: many}, mayBe && nulls == many)
			}
		}
	}
}

// No kind but those three is that of a column: not Null either, whatever the zone.
func TestRightOfKinds(t *testing.T) {
	for kind := range 256 {
		k := uint8(kind)
		known := slices.Contains(kinds, k)
		mustBeRight(t, k, empty, known)
		mustBeRight(t, k, api.Zone{Nulls: 3, Many: 3}, known)
		for _, v := range allValues() {
			mustBeRight(t, k, api.Zone{Least: v, Most: v, Many: 1}, known && v.Kind == k && valid(v))
			mustBeRight(t, k, api.Zone{Least: v, Most: v, Many: 5}, known && v.Kind == k && valid(v))
		}
	}
}

// Both bounds are valid, and of that kind.
func TestRightOfBounds(t *testing.T) {
	for _, kind := range append(kinds, api.Null, 4, 255) {
		for _, least := range allValues() {
			for _, most := range allValues() {
				for _, many := range []int{1, 2, 3, 4} {
					z := api.Zone{Least: least, Most: most, Nulls: 1, Many: many}
					mustBeRight(t, kind, z, right(kind, z))
				}
			}
		}
	}
}

// Right holds for the zones of lists of valid values, Null or of that kind, and for no others.
func TestRightIsOfSomeList(t *testing.T) {
	for _, kind := range kinds {
		known := map[api.Zone]bool{}
		for _, l := range smallLists(append(few(kind), null), 4) {
			known[zoneOf(l)] = true
		}
		bounds := slices.Concat(few(kind), wrongValues(), []api.Value{null, truth(1), num(0), text("a")})
		rights := 0
		for _, least := range bounds {
			for _, most := range bounds {
				for nulls := -1; nulls <= 5; nulls++ {
					for many := -1; many <= 4; many++ {
						z := api.Zone{Least: least, Most: most, Nulls: nulls, Many: many}
						mustBeRight(t, kind, z, known[z])
						if known[z] {
							rights++
						}
					}
				}
			}
		}
		if rights < len(known) {
			t.Errorf("%d zones of kind %d were asked, of %d", rights, kind, len(known))
		}
	}
}

// As many values as there may be, and one more.
func TestRightOfLongLists(t *testing.T) {
	for _, kind := range kinds {
		l := append(make([]api.Value, 4094), few(kind)[0], few(kind)[1])
		mustBeRight(t, kind, Of(l), true)
		mustBeRight(t, kind, Of(append(l, null)), false)
		mustBeRight(t, kind, Of(append(l, few(kind)[1])), false)
	}
}
