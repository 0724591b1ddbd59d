package zone

import (
	"fmt"
	"math"
	"testing"

	"warp/api"
)

// P13.3: the possible truth values.

// letters is the possible truth values as a test tells them: N, U and Y for those that may occur.
func letters(may [3]bool) string {
	s := ""
	for i, c := range []string{"N", "U", "Y"} {
		if may[i] {
			s += c
		}
	}
	return s
}

// zoneFor is a zone by its fields.
func zoneFor(least, most api.Value, nulls, many int) api.Zone {
	return api.Zone{Least: least, Most: most, Nulls: nulls, Many: many}
}

// mustMay tells unless Equal and Less have those possible truth values.
func mustMay(t *testing.T, z api.Zone, v api.Value, equal, less string) {
	t.Helper()
	what := fmt.Sprint(shownZone(z), shown(v))
	mustBe(t, letters(Equal(z, v)), equal, "Equal", what)
	mustBe(t, letters(Less(z, v)), less, "Less", what)
}

func TestMay(t *testing.T) {
	z := zoneFor(num(3), num(5), 1, 3)
	for _, c := range []struct {
		v           api.Value
		equal, less string
	}{
		{num(math.MinInt), "NU", "NU"},
		{num(2), "NU", "NU"},
		{num(3), "NUY", "NU"},
		{num(4), "NUY", "NUY"},
		{num(5), "NUY", "NUY"},
		{num(6), "NU", "UY"},
		{num(math.MaxInt), "NU", "UY"},
		{null, "U", "U"},
		{truth(1), "NU", "NU"},
		{text(""), "NU", "UY"},
	} {
		mustMay(t, z, c.v, c.equal, c.less)
	}
	z.Nulls, z.Many = 0, 2
	for _, c := range []struct {
		v           api.Value
		equal, less string
	}{
		{num(2), "N", "N"},
		{num(3), "NY", "N"},
		{num(4), "NY", "NY"},
		{num(5), "NY", "NY"},
		{num(6), "N", "Y"},
		{null, "U", "U"},
	} {
		mustMay(t, z, c.v, c.equal, c.less)
	}
}

// Where all values are one, what comes of v is known, but for Nulls.
func TestMayOfOneValue(t *testing.T) {
	for _, kind := range kinds {
		values := some(kind)
		for i, v := range values {
			for j, w := range values {
				equal, less := "N", "N"
				if i == j {
					equal = "Y"
				}
				if i < j {
					less = "Y"
				}
				mustMay(t, zoneFor(v, v, 0, 1), w, equal, less)
				mustMay(t, zoneFor(v, v, 0, 4096), w, equal, less)
				withNull := map[string]string{"N": "NU", "Y": "UY"}
				mustMay(t, zoneFor(v, v, 1, 2), w, withNull[equal], withNull[less])
			}
			mustMay(t, zoneFor(v, v, 0, 1), null, "U", "U")
		}
	}
}

// Without values, nothing is possible; with Nulls alone, Unknown.
func TestMayOfNulls(t *testing.T) {
	for _, v := range allValues() {
		mustMay(t, empty, v, "", "")
		mustMay(t, zoneFor(null, null, 1, 1), v, "U", "U")
		mustMay(t, zoneFor(null, null, 4096, 4096), v, "U", "U")
	}
}

// Values of all kinds, valid or not, have their place in the order; what is Null is so by its Kind alone.
func TestMayOfOddValues(t *testing.T) {
	z := zoneFor(num(3), num(5), 0, 2)
	for _, c := range []struct {
		v           api.Value
		equal, less string
	}{
		{api.Value{Kind: api.Null, N: 4}, "U", "U"},
		{api.Value{Kind: api.Null, S: "a"}, "U", "U"},
		{api.Value{Kind: api.Bool, N: 4}, "N", "N"},
		{api.Value{Kind: api.Int, N: 3, S: "a"}, "NY", "NY"},
		{api.Value{Kind: api.Int, N: 5, S: "a"}, "N", "Y"},
		{api.Value{Kind: api.Int, N: 2, S: "a"}, "N", "N"},
		{api.Value{Kind: api.Text, N: -9}, "N", "Y"},
		{api.Value{Kind: 255, N: 4}, "N", "Y"},
	} {
		mustMay(t, z, c.v, c.equal, c.less)
	}
}

// Zones need not be those of any values: each field tells what it tells.
func TestMayOfOddZones(t *testing.T) {
	odd := api.Value{Kind: api.Null, N: -5, S: "a"}
	for _, c := range []struct {
		z           api.Zone
		v           api.Value
		equal, less string
	}{
		{zoneFor(num(5), num(3), 0, 2), num(4), "N", ""}, // the bounds the wrong way round
		{zoneFor(num(5), num(3), 0, 2), num(3), "N", "N"},
		{zoneFor(num(5), num(3), 0, 2), num(5), "N", ""},
		{zoneFor(num(5), num(3), 0, 2), num(6), "N", "Y"},
		{zoneFor(num(3), num(4), 0, 1), num(3), "NY", "N"}, // two bounds of one value
		{zoneFor(num(3), num(4), 0, 1), num(4), "NY", "NY"},
		{zoneFor(null, null, 0, 1), num(4), "N", "Y"}, // no bounds
		{zoneFor(null, num(4), 0, 1), num(4), "NY", "NY"},
		{zoneFor(num(4), null, 0, 1), num(4), "N", ""},
		{zoneFor(odd, odd, 0, 1), num(4), "N", "Y"},
		{zoneFor(odd, odd, 0, 1), odd, "U", "U"},
		{zoneFor(num(4), num(4), 1, 1), num(4), "U", "U"}, // bounds of no value
		{zoneFor(num(4), num(4), 2, 1), num(4), "U", "U"},
		{zoneFor(num(4), num(4), 0, 0), num(4), "", ""},
		{zoneFor(num(4), num(4), 0, -1), num(4), "", ""},
		{zoneFor(num(4), num(4), -1, -1), num(4), "", ""},
		{zoneFor(num(4), num(4), -1, 0), num(4), "Y", "N"}, // fewer Nulls than none
		{zoneFor(num(4), num(4), -2, -1), num(4), "Y", "N"},
		{zoneFor(num(4), num(4), -2, -1), null, "", ""},
		{zoneFor(num(4), num(4), -1, 0), null, "", ""},
		{zoneFor(num(4), num(4), 0, 1), null, "U", "U"},
		{zoneFor(num(4), num(4), 1, 0), null, "U", "U"},
		{zoneFor(num(4), num(4), 1, -1), null, "U", "U"},
		{zoneFor(num(4), num(4), math.MinInt, math.MaxInt), num(4), "Y", "N"}, // counts whose difference no int can hold
		{zoneFor(num(4), num(4), math.MaxInt, math.MinInt), num(4), "U", "U"},
	} {
		mustMay(t, c.z, c.v, c.equal, c.less)
	}
}

func TestNull(t *testing.T) {
	counts := []int{math.MinInt, -2, -1, 0, 1, 2, 4096, 4097, math.MaxInt}
	for _, v := range allValues() {
		for _, nulls := range counts {
			for _, many := range counts {
				want := ""
				if many > nulls {
					want = "N"
				}
				if nulls > 0 {
					want += "Y"
				}
				z := zoneFor(v, v, nulls, many)
				mustBe(t, letters(Null(z)), want, "Null", shownZone(z))
			}
		}
	}
	mustBe(t, Null(zoneFor(num(3), num(5), 1, 3)), [3]bool{true, false, true}, "Null of 5, Null, 3")
	mustBe(t, Null(zoneFor(num(3), num(5), 0, 2)), [3]bool{true, false, false}, "Null of 5, 3")
	mustBe(t, Null(zoneFor(null, null, 2, 2)), [3]bool{false, false, true}, "Null of Nulls")
	mustBe(t, Null(empty), [3]bool{}, "Null of nothing")
}

// may is what Equal and Less must answer, in the words of P13.3.
func may(z api.Zone, v api.Value) (equal, less [3]bool) {
	if z.Nulls > 0 {
		equal[1], less[1] = true, true
	}
	if v.Kind == 0 && z.Many > 0 {
		equal[1], less[1] = true, true
	}
	if z.Many > z.Nulls && v.Kind != 0 {
		tooLittle, tooGreat := before(v, z.Least) < 0, before(v, z.Most) > 0
		equal[2] = !tooLittle && !tooGreat
		equal[0] = before(z.Least, v) != 0 || before(z.Most, v) != 0
		less[2] = before(z.Least, v) < 0
		less[0] = !(before(z.Most, v) < 0)
	}
	return equal, less
}

func TestMayOfAllZones(t *testing.T) {
	counts := [][2]int{{0, 0}, {0, 1}, {0, 2}, {1, 1}, {1, 2}, {1, 3}, {2, 1}, {-1, 0}, {-1, -1}, {-2, -1}, {1, -1}, {math.MaxInt, math.MinInt}, {math.MinInt, math.MaxInt}}
	for _, least := range allValues() {
		for _, most := range allValues() {
			for _, v := range allValues() {
				for _, c := range counts {
					z := zoneFor(least, most, c[0], c[1])
					equal, less := may(z, v)
					mustBe(t, Equal(z, v), equal, "Equal", shownZone(z), shown(v))
					mustBe(t, Less(z, v), less, "Less", shownZone(z), shown(v))
				}
			}
		}
	}
}
