package cell

import (
	"bytes"
	"math/rand"
	"testing"

	"warp/api"
)

// P4.5 and P4.6: what follows from the other promises.

// The source of chance begins with a fixed number, so that each run is the same.
func someValue(chance *rand.Rand) api.Value {
	return api.Value{Kind: uint8(chance.Intn(5)), N: chance.Intn(4) - 1, S: []string{"", "", "a", "ab", "b"}[chance.Intn(5)]}
}

// someValid is a valid value.
func someValid(chance *rand.Rand) api.Value {
	v := api.Value{Kind: uint8(chance.Intn(4))}
	switch v.Kind {
	case api.Bool:
		v.N = chance.Intn(2)
	case api.Int:
		v.N = int(chance.Uint64()) >> chance.Intn(64)
	case api.Text:
		raw := make([]byte, chance.Intn(api.MaxText+1)>>chance.Intn(11))
		chance.Read(raw)
		v.S = string(raw)
	}
	return v
}

func TestTotalOrder(t *testing.T) {
	chance := rand.New(rand.NewSource(1))
	l := allValues()
	for range 60 {
		l = append(l, someValue(chance))
	}
	for _, a := range l {
		for _, b := range l {
			ab := Compare(a, b)
			if ab < -1 || ab > 1 || ab != -Compare(b, a) || (ab == 0) != (a == b) {
				t.Errorf("Compare of %v and %v is %d, and the other way %d", shown(a), shown(b), ab, Compare(b, a))
			}
			for _, c := range l {
				if ab <= 0 && Compare(b, c) <= 0 && Compare(a, c) > 0 {
					t.Errorf("%v, %v and %v go in a circle", shown(a), shown(b), shown(c))
				}
			}
		}
	}
}

func TestKleene(t *testing.T) {
	l := []uint8{0, 1, 2, 3, 4, 128, 254, 255}
	for _, a := range l {
		if got := Not(Not(a)); got != uint8(counts(int(a))) {
			t.Errorf("Not of Not of %d is %d", a, got)
		}
		for _, b := range l {
			if Not(And(a, b)) != Or(Not(a), Not(b)) || Not(Or(a, b)) != And(Not(a), Not(b)) {
				t.Errorf("De Morgan's laws do not hold for %d and %d", a, b)
			}
			for _, c := range l {
				if And(a, Or(b, c)) != Or(And(a, b), And(a, c)) || Or(a, And(b, c)) != And(Or(a, b), Or(a, c)) {
					t.Errorf("And and Or of %d, %d and %d are not distributive", a, b, c)
				}
			}
		}
	}
}

func TestUnboxOfBox(t *testing.T) {
	chance := rand.New(rand.NewSource(2))
	l := validValues()
	for range 20000 {
		l = append(l, someValid(chance))
	}
	for _, v := range l {
		if got, ok := Unbox(Box(v)); !ok || got != v {
			t.Errorf("%v is unboxed as %v, %t", shown(v), shown(got), ok)
		}
	}
}

func TestBoxOfUnbox(t *testing.T) {
	for _, x := range []any{nil, true, false, 0, 1, -1, 1 << 62, "", "a", longest()} {
		v, ok := Unbox(x)
		if !ok || !Right(v) || Box(v) != x {
			t.Errorf("%v is boxed again as %v", x, Box(v))
		}
	}
}

// mustComeBack tells unless the values of l, put one behind another, are taken in the same order, and no bytes are left.
func mustComeBack(t *testing.T, l []api.Value, tail []byte) {
	t.Helper()
	var b []byte
	for _, v := range l {
		b = Put(b, v)
	}
	b = append(b, tail...)
	for i, v := range l {
		got, rest, e := Take(b)
		if e != api.OK || got != v {
			t.Fatalf("value %d of %d, %v, is taken as %v, with error %d", i, len(l), shown(v), shown(got), e)
		}
		b = rest
	}
	if !bytes.Equal(b, tail) {
		t.Fatalf("%d bytes are left, not %d", len(b), len(tail))
	}
}

func TestTakeOfPut(t *testing.T) {
	mustComeBack(t, nil, nil)
	mustComeBack(t, validValues(), nil)
	mustComeBack(t, validValues(), []byte{255, 0, 1})
	chance := rand.New(rand.NewSource(3))
	for range 500 {
		var l []api.Value
		for range chance.Intn(30) {
			l = append(l, someValid(chance))
		}
		tail := make([]byte, chance.Intn(3))
		chance.Read(tail)
		mustComeBack(t, l, tail)
	}
}

// A value that is not valid is taken as Null, and leaves those beside it whole.
func TestTakeOfPutWrong(t *testing.T) {
	for _, v := range wrongValues() {
		b := Put(Put(Put(nil, api.Value{Kind: api.Int, N: 7}), v), api.Value{Kind: api.Text, S: "a"})
		for _, want := range []api.Value{{Kind: api.Int, N: 7}, {}, {Kind: api.Text, S: "a"}} {
			got, rest, e := Take(b)
			if e != api.OK || got != want {
				t.Errorf("%v is taken as %v, with error %d", want, shown(got), e)
			}
			b = rest
		}
	}
}
