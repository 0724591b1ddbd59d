package pack

import (
	"math"
	"math/rand"
	"slices"
	"testing"

	"warp/api"
)

// P8.1: Width and Bytes.

func TestWidth(t *testing.T) {
	for _, c := range []struct {
		l    []uint64
		want int
	}{
		{nil, 0},
		{[]uint64{}, 0},
		{[]uint64{0}, 0},
		{[]uint64{0, 0, 0}, 0},
		{[]uint64{1}, 1},
		{[]uint64{2}, 2},
		{[]uint64{3}, 2},
		{[]uint64{4}, 3},
		{[]uint64{5}, 3},
		{[]uint64{7}, 3},
		{[]uint64{8}, 4},
		{[]uint64{1, 2, 4}, 3}, // less than 8 each, though not all together
		{[]uint64{5, 0}, 3},
		{[]uint64{0, 5}, 3},
		{[]uint64{1, 9, 2}, 4},
		{[]uint64{7, 8}, 4},
		{[]uint64{8, 7}, 4},
		{[]uint64{255}, 8},
		{[]uint64{256}, 9},
		{[]uint64{1<<32 - 1}, 32},
		{[]uint64{1 << 32}, 33},
		{[]uint64{1<<63 - 1}, 63},
		{[]uint64{1 << 63}, 64},
		{[]uint64{math.MaxUint64}, 64},
		{[]uint64{math.MaxUint64, 0}, 64},
		{make([]uint64, 4097), 0},
		{slices.Repeat([]uint64{3}, 100000), 2}, // no list is too long
	} {
		if got := Width(c.l); got != c.want {
			t.Errorf("Width of %d integers from %d on is %d, not %d", len(c.l), c.l[:min(3, len(c.l))], got, c.want)
		}
	}
}

// The width is the least: all powers of two, and what lies beside them.
func TestWidthIsLeast(t *testing.T) {
	for k := range 64 {
		power := uint64(1) << k
		if got := Width([]uint64{power}); got != k+1 {
			t.Errorf("Width of 2^%d is %d", k, got)
		}
		if got := Width([]uint64{power - 1}); got != k {
			t.Errorf("Width of 2^%d - 1 is %d", k, got)
		}
	}
}

func TestWidthOfAny(t *testing.T) {
	chance := rand.New(rand.NewSource(1))
	for range 2000 {
		l := some(chance, 1+chance.Intn(20), chance.Intn(65))
		most := slices.Max(l)
		want := 0
		for want < 64 && most >= 1<<want {
			want++
		}
		if got := Width(l); got != want {
			t.Errorf("Width(%d) is %d, not %d", l, got, want)
		}
	}
}

// The number of bytes, reckoned bit by bit.
func TestBytes(t *testing.T) {
	for _, many := range []int{0, 1, 2, 3, 7, 8, 9, 15, 16, 17, 63, 64, 65, 4095, 4096} {
		for width := range 65 {
			want := many * width / 8
			if want*8 < many*width {
				want++
			}
			if got, e := Bytes(many, width); got != want || e != api.OK {
				t.Errorf("Bytes(%d, %d) is %d and error %d, not %d", many, width, got, e, want)
			}
		}
	}
	for _, c := range [][3]int{{0, 0, 0}, {0, 64, 0}, {1, 0, 0}, {1, 1, 1}, {8, 1, 1}, {9, 1, 2}, {3, 2, 1}, {3, 3, 2}, {1, 64, 8}, {4096, 0, 0}, {4096, 1, 512}, {4095, 1, 512}, {4096, 64, 32768}, {4095, 63, 32249}} {
		if got, e := Bytes(c[0], c[1]); got != c[2] || e != api.OK {
			t.Errorf("Bytes(%d, %d) is %d and error %d, not %d", c[0], c[1], got, e, c[2])
		}
	}
}

// What may not be is told ahead of what is too long.
func TestBytesOfOdd(t *testing.T) {
	for _, c := range odd() {
		if got, e := Bytes(c.many, c.width); got != 0 || e != c.e {
			t.Errorf("Bytes(%d, %d) is %d and error %d, not error %d", c.many, c.width, got, e, c.e)
		}
	}
}
