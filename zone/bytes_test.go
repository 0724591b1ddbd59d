package zone

import (
	"bytes"
	"math"
	"slices"
	"testing"

	"warp/api"
	"warp/cell"
	"warp/octets"
)

// P13.2: zones as bytes, and from bytes again.

// mustPut tells unless the Put of z is b.
func mustPut(t *testing.T, z api.Zone, b []byte) {
	t.Helper()
	if got := Put(z); !bytes.Equal(got, b) {
		t.Fatalf("Put(%v) is %d, not %d", shownZone(z), got, b)
	}
}

// mustTake tells unless b is taken as z.
func mustTake(t *testing.T, kind uint8, b []byte, z api.Zone) {
	t.Helper()
	if got, e := Take(kind, b); e != api.OK || got != z {
		t.Fatalf("Take(%d, %d) is %v and error %d, not %v", kind, b, shownZone(got), e, shownZone(z))
	}
}

// mustNotTake tells unless Take answers that error and nothing else.
func mustNotTake(t *testing.T, kind uint8, b []byte, want api.Errno) {
	t.Helper()
	if z, e := Take(kind, b); e != want || z != empty {
		t.Fatalf("Take(%d, %d) is %v and error %d, not error %d", kind, b, shownZone(z), e, want)
	}
}

// mustTakeAsRight tells unless Take takes the bytes of z for each kind for which z is right, and for no other.
func mustTakeAsRight(t *testing.T, b []byte, z api.Zone) {
	t.Helper()
	for kind := range 256 {
		switch k := uint8(kind); {
		case !slices.Contains(kinds, k):
			mustNotTake(t, k, b, api.ErrArg)
		case right(k, z):
			mustTake(t, k, b, z)
		default:
			mustNotTake(t, k, b, api.ErrCorrupt)
		}
	}
}

func TestBytes(t *testing.T) {
	great := []byte{2, 255, 255, 255, 255, 255, 255, 255, 255, 254}
	for _, c := range []struct {
		z api.Zone
		b []byte
	}{
		{empty, []byte{0, 0, 0, 0}},
		{api.Zone{Nulls: 1, Many: 1}, []byte{0, 0, 2, 2}},
		{api.Zone{Nulls: 123, Many: 123}, []byte{0, 0, 246, 246}},
		{api.Zone{Nulls: 124, Many: 124}, []byte{0, 0, 248, 248, 248, 248}},
		{api.Zone{Nulls: 4096, Many: 4096}, []byte{0, 0, 249, 32, 0, 249, 32, 0}},
		{api.Zone{Least: num(3), Most: num(5), Nulls: 1, Many: 3}, []byte{2, 6, 2, 10, 2, 6}},
		{api.Zone{Least: num(-2), Most: num(-1), Many: 128}, []byte{2, 3, 2, 1, 0, 249, 1, 0}},
		{api.Zone{Least: num(math.MaxInt), Most: num(math.MaxInt), Nulls: 4095, Many: 4096}, slices.Concat(great, great, []byte{249, 31, 254, 249, 32, 0})},
		{api.Zone{Least: truth(0), Most: truth(1), Many: 2}, []byte{1, 0, 1, 2, 0, 4}},
		{api.Zone{Least: truth(1), Most: truth(1), Many: 1}, []byte{1, 2, 1, 2, 0, 2}},
		{api.Zone{Least: text(""), Most: text("ab"), Nulls: 1, Many: 4096}, []byte{3, 0, 3, 2, 97, 98, 2, 249, 32, 0}},
		{api.Zone{Least: text(longest()), Most: text("\xff"), Many: 9}, slices.Concat([]byte{3, 249, 4, 0}, []byte(longest()), []byte{3, 1, 255, 0, 18})},
	} {
		mustPut(t, c.z, c.b)
		mustTakeAsRight(t, c.b, c.z)
	}
}

// Zones that are not those of any values have bytes, too: those of their fields, and Null's for a value that is not valid. They are not taken.
func TestPutWrongZones(t *testing.T) {
	for _, c := range []struct {
		z api.Zone
		b []byte
	}{
		{api.Zone{Nulls: -1, Many: -2}, []byte{0, 0, 1, 3}},
		{api.Zone{Nulls: 4097, Many: 4097}, []byte{0, 0, 249, 32, 2, 249, 32, 2}},
		{api.Zone{Nulls: 2, Many: 1}, []byte{0, 0, 4, 2}},
		{api.Zone{Many: 1}, []byte{0, 0, 0, 2}},
		{api.Zone{Nulls: math.MaxInt, Many: math.MinInt}, []byte{0, 0, 255, 255, 255, 255, 255, 255, 255, 255, 254, 255, 255, 255, 255, 255, 255, 255, 255, 255}},
		{api.Zone{Least: num(5), Most: num(3), Many: 2}, []byte{2, 10, 2, 6, 0, 4}},
		{api.Zone{Least: num(3), Most: num(5), Many: 1}, []byte{2, 6, 2, 10, 0, 2}},
		{api.Zone{Least: num(3), Most: num(3)}, []byte{2, 6, 2, 6, 0, 0}},
		{api.Zone{Least: num(3), Most: num(3), Nulls: 1, Many: 1}, []byte{2, 6, 2, 6, 2, 2}},
		{api.Zone{Least: num(3), Many: 2}, []byte{2, 6, 0, 0, 4}},
		{api.Zone{Most: num(3), Many: 2}, []byte{0, 2, 6, 0, 4}},
		{api.Zone{Least: num(3), Most: text("a"), Many: 2}, []byte{2, 6, 3, 1, 97, 0, 4}},
		{api.Zone{Least: truth(1), Most: num(1), Many: 2}, []byte{1, 2, 2, 2, 0, 4}},
	} {
		mustPut(t, c.z, c.b)
		for _, kind := range kinds {
			mustNotTake(t, kind, c.b, api.ErrCorrupt)
		}
	}
	for _, v := range wrongValues() {
		mustPut(t, api.Zone{Least: v, Most: num(3), Many: 2}, []byte{0, 2, 6, 0, 4})
		mustPut(t, api.Zone{Least: num(3), Most: v, Many: 2}, []byte{2, 6, 0, 0, 4})
		mustPut(t, api.Zone{Least: v, Most: v, Nulls: 1, Many: 1}, []byte{0, 0, 2, 2})
	}
}

// The kind is looked at ahead of the bytes.
func TestTakeOfKinds(t *testing.T) {
	for _, b := range [][]byte{nil, {}, {0}, {0, 0, 0, 0}, {2, 6, 2, 10, 2, 6}, {255}} {
		for kind := range 256 {
			if k := uint8(kind); !slices.Contains(kinds, k) {
				mustNotTake(t, k, b, api.ErrArg)
			}
		}
	}
}

func TestTakeWrongBytes(t *testing.T) {
	for _, b := range [][]byte{
		nil,
		{},
		{0},
		{0, 0},
		{0, 0, 0},
		{0, 0, 0, 0, 0},
		{2, 6, 2, 10, 2, 6, 0},
		{4, 0, 0, 0},
		{0, 4, 0, 0},
		{255, 255, 255, 255},
		{1, 4, 1, 4, 0, 4},       // the Bool of 2
		{1, 0, 1, 4, 0, 4},       // of 0 and of 2
		{2, 248, 6, 2, 10, 2, 6}, // integers in more bytes than they need
		{2, 6, 2, 248, 10, 2, 6},
		{2, 6, 2, 10, 248, 2, 6},
		{2, 6, 2, 10, 2, 248, 6},
		{2, 6, 2, 10, 2, 249, 0, 6},
		{0, 0, 248, 0, 0},
		{3, 248, 1, 97, 3, 1, 97, 0},
		{3, 2, 97, 3, 1, 97, 0, 2}, // a text that reaches into what stands behind it
		{3, 1, 97, 3, 9, 97, 0, 2},
	} {
		for _, kind := range kinds {
			mustNotTake(t, kind, b, api.ErrCorrupt)
		}
	}
	// A text of more bytes than a text may have.
	b := slices.Concat([]byte{3, 1, 97, 3, 249, 4, 1}, []byte(longest()+"x"), []byte{0, 4})
	mustNotTake(t, api.Text, b, api.ErrCorrupt)
}

// held is values, or integers, beside their bytes.
type held[T any] struct {
	x T
	b []byte
}

// shortValues is all values whose encodings are at most four of those letters, which the tests write out by themselves.
func shortValues(letters []byte) []held[api.Value] {
	l := []held[api.Value]{{null, []byte{0}}, {truth(0), []byte{1, 0}}, {truth(1), []byte{1, 2}}, {text(""), []byte{3, 0}}}
	for _, n := range shortInts(letters) {
		l = append(l, held[api.Value]{num(n.x), append([]byte{2}, n.b...)})
	}
	for _, c := range letters {
		l = append(l, held[api.Value]{text(string([]byte{c})), []byte{3, 1, c}})
		for _, d := range letters {
			l = append(l, held[api.Value]{text(string([]byte{c, d})), []byte{3, 2, c, d}})
		}
	}
	return l
}

// shortInts is all integers whose encodings are at most two of those letters.
func shortInts(letters []byte) []held[int] {
	var l []held[int]
	signed := func(u int) int {
		if u%2 == 1 {
			return -1 - u/2
		}
		return u / 2
	}
	for _, c := range letters {
		switch {
		case c < 248:
			l = append(l, held[int]{signed(int(c)), []byte{c}})
		case c == 248:
			for _, d := range letters {
				if d >= 248 {
					l = append(l, held[int]{signed(int(d)), []byte{c, d}})
				}
			}
		}
	}
	return l
}

// shortZones is all zones of a kind whose bytes are at most many of those letters, by their bytes.
func shortZones(kind uint8, letters []byte, many int) map[string]api.Zone {
	m := map[string]api.Zone{}
	values, counts := shortValues(letters), shortInts(letters)
	for _, least := range values {
		for _, most := range values {
			for _, nulls := range counts {
				for _, all := range counts {
					z := api.Zone{Least: least.x, Most: most.x, Nulls: nulls.x, Many: all.x}
					if b := slices.Concat(least.b, most.b, nulls.b, all.b); len(b) <= many && right(kind, z) {
						m[string(b)] = z
					}
				}
			}
		}
	}
	return m
}

func TestTakeAllShort(t *testing.T) {
	letters := []byte{0, 1, 2, 3, 4, 6, 97, 248}
	known := map[uint8]map[string]api.Zone{}
	for _, kind := range kinds {
		known[kind] = shortZones(kind, letters, 6)
	}
	taken := 0
	all := [][]byte{nil}
	for i := 0; i < len(all); i++ {
		b := all[i]
		for _, kind := range kinds {
			if z, ok := known[kind][string(b)]; ok {
				taken++
				mustTake(t, kind, b, z)
				mustPut(t, z, b)
			} else {
				mustNotTake(t, kind, b, api.ErrCorrupt)
			}
		}
		if len(b) < 6 {
			for _, c := range letters {
				all = append(all, append(bytes.Clone(b), c))
			}
		}
	}
	if want := len(known[api.Bool]) + len(known[api.Int]) + len(known[api.Text]); taken != want || taken < 100 {
		t.Errorf("%d zones were taken, of %d", taken, want)
	}
}

// fields is what bytes tell of a zone, and whether they tell all of it and nothing else.
func fields(b []byte) (api.Zone, bool) {
	least, rest, e := cell.Take(b)
	most, rest, f := cell.Take(rest)
	r := octets.New(rest)
	nulls := r.Int()
	many := r.Int()
	return api.Zone{Least: least, Most: most, Nulls: nulls, Many: many}, e == api.OK && f == api.OK && r.End() == api.OK
}

// mustTakeAsFields tells unless b is taken as its fields, for each kind for which they are right.
func mustTakeAsFields(t *testing.T, b []byte) {
	t.Helper()
	z, ok := fields(b)
	for _, kind := range kinds {
		if ok && right(kind, z) {
			mustTake(t, kind, b, z)
			mustPut(t, z, b)
		} else {
			mustNotTake(t, kind, b, api.ErrCorrupt)
		}
	}
}

// What is cut off, lengthened, or spoilt in a byte is taken only if it is the bytes of a zone again.
func TestTakeSpoilt(t *testing.T) {
	for _, kind := range kinds {
		for _, least := range some(kind) {
			for _, most := range some(kind) {
				b := Put(api.Zone{Least: least, Most: most, Nulls: 3, Many: 4096})
				if len(b) > 100 {
					continue
				}
				for i := range b {
					mustTakeAsFields(t, b[:i])
					mustTakeAsFields(t, slices.Delete(bytes.Clone(b), i, i+1))
					for c := range 256 {
						spoilt := bytes.Clone(b)
						spoilt[i] = byte(c)
						mustTakeAsFields(t, spoilt)
					}
				}
				mustTakeAsFields(t, append(bytes.Clone(b), 0))
				mustTakeAsFields(t, slices.Concat(b, b))
			}
		}
	}
}

// Put answers memory of its own; Take changes nothing, keeps nothing, and reads nothing beyond the length of its argument.
func TestBytesOwnTheirMemory(t *testing.T) {
	z := api.Zone{Least: text("a"), Most: text("ab"), Nulls: 1, Many: 3}
	one, two := Put(z), Put(z)
	clear(one[:cap(one)])
	if want := []byte{3, 1, 97, 3, 2, 97, 98, 2, 6}; !bytes.Equal(two, want) {
		t.Errorf("Put answers memory that is not its own: %d", two)
	}
	memory := append(bytes.Clone(two), 0, 2, 6)
	was := bytes.Clone(memory)
	mustTake(t, api.Text, memory[:9], z)
	mustNotTake(t, api.Text, memory[:8], api.ErrCorrupt)
	mustNotTake(t, api.Text, memory[:10], api.ErrCorrupt)
	got, _ := Take(api.Text, memory[:9])
	if !bytes.Equal(memory, was) {
		t.Errorf("Take made its argument %d", memory)
	}
	clear(memory)
	mustBe(t, got, z, "what Take answered")
}
