package octets

import (
	"bytes"
	"math/rand"
	"slices"
	"strings"
	"testing"

	"warp/api"
)

// P1.3: decoding undoes encoding, and the encodings of integers are ordered as the integers are.

// near is the integers around every power of 2, and around the lengths' bounds, in increasing order.
func near() []uint64 {
	var l []uint64
	for bit := range 64 {
		for d := range uint64(5) {
			l = append(l, 1<<bit-2+d, 248+d, 248-d)
		}
	}
	l = append(l, 0, 1<<64-1)
	slices.Sort(l)
	return slices.Compact(l)
}

func TestNumInverse(t *testing.T) {
	for _, n := range near() {
		r := New(Num(nil, n))
		if got := r.Num(); got != n || r.End() != api.OK {
			t.Errorf("%d is decoded as %d, and End is %d", n, got, r.End())
		}
	}
}

func TestIntInverse(t *testing.T) {
	for _, u := range near() {
		n := int(u)
		r := New(Int(nil, n))
		if got := r.Int(); got != n || r.End() != api.OK {
			t.Errorf("%d is decoded as %d, and End is %d", n, got, r.End())
		}
	}
}

func TestTextInverse(t *testing.T) {
	for size := range api.MaxText + 1 {
		var all strings.Builder
		for i := range size {
			all.WriteByte(byte(i*7 + size))
		}
		r := New(Text(nil, all.String()))
		if got := r.Text(); got != all.String() || r.End() != api.OK {
			t.Errorf("a text of %d bytes is decoded as %d bytes, and End is %d", size, len(got), r.End())
		}
	}
}

// What is encoded in any mixture comes back in the same order. The source of chance begins with a fixed number, so that each run is the same.
func TestMixedInverse(t *testing.T) {
	chance := rand.New(rand.NewSource(1))
	for range 300 {
		var b []byte
		var checks []func(r *Reader) bool
		for range chance.Intn(30) {
			n := chance.Uint64() >> chance.Intn(64)
			switch chance.Intn(3) {
			case 0:
				b = Num(b, n)
				checks = append(checks, func(r *Reader) bool { return r.Num() == n })
			case 1:
				i := int(n)
				if chance.Intn(2) == 0 {
					i = -1 - i
				}
				b = Int(b, i)
				checks = append(checks, func(r *Reader) bool { return r.Int() == i })
			case 2:
				raw := make([]byte, chance.Intn(300))
				chance.Read(raw)
				b = Text(b, string(raw))
				checks = append(checks, func(r *Reader) bool { return r.Text() == string(raw) })
			}
		}
		r := New(b)
		for i, check := range checks {
			if !check(r) {
				t.Fatalf("item %d of %d is lost in %d", i, len(checks), b)
			}
		}
		if r.End() != api.OK || r.Left() != 0 || r.Bad() {
			t.Fatalf("%d bytes remain of %d", r.Left(), b)
		}
	}
}

func TestNumOrder(t *testing.T) {
	l := near()
	for i, n := range l {
		one := Num(nil, n)
		for _, m := range l[i+1:] {
			two := Num(nil, m)
			if bytes.Compare(one, two) >= 0 {
				t.Fatalf("%d is less than %d, but %d is not less than %d", n, m, one, two)
			}
			if bytes.HasPrefix(two, one) || bytes.HasPrefix(one, two) {
				t.Fatalf("one of %d and %d is a prefix of the other", one, two)
			}
		}
	}
}

// Of all bytes, those that a reader takes for an integer are the encoding of that integer, so that there is only one.
func TestOnlyOneEncoding(t *testing.T) {
	taken := 0
	check := func(b []byte) {
		r := New(b)
		n := r.Num()
		if r.End() != api.OK {
			return
		}
		taken++
		if !bytes.Equal(Num(nil, n), b) {
			t.Errorf("%d is taken for %d", b, n)
		}
	}
	for i := range 256 {
		check([]byte{byte(i)})
		for j := range 256 {
			check([]byte{byte(i), byte(j)})
			for k := range 256 {
				check([]byte{byte(i), byte(j), byte(k)})
			}
		}
	}
	if taken != 1<<16 {
		t.Errorf("%d byte strings of at most three bytes are taken for an integer, not %d", taken, 1<<16)
	}
}
