package delta

import (
	"bytes"
	"math"
	"math/rand"
	"slices"
	"testing"

	"warp/api"
)

// P11.2: Put and Take.

func TestPut(t *testing.T) {
	for _, c := range []struct {
		l    []int
		want []byte
	}{
		{nil, []byte{0}},
		{[]int{}, []byte{0}},
		{[]int{5, 7, 6}, []byte{3, 10, 4, 1}},
		{[]int{0}, []byte{1, 0}},
		{[]int{-1}, []byte{1, 1}},
		{[]int{1, 1, 1}, []byte{3, 2, 0, 0}},
		{[]int{1, 2, 3}, []byte{3, 2, 2, 2}},
		{[]int{0, -1, 0}, []byte{3, 0, 1, 2}},
		{[]int{1000, 1001}, []byte{2, 249, 7, 208, 2}},
		{[]int{124, 0}, []byte{2, 248, 248, 247}},
		{[]int{125, 0}, []byte{2, 248, 250, 248, 249}},
		{[]int{math.MaxInt}, []byte{1, 255, 255, 255, 255, 255, 255, 255, 255, 254}},
		{[]int{math.MinInt}, []byte{1, 255, 255, 255, 255, 255, 255, 255, 255, 255}},
		{[]int{math.MaxInt, -1}, []byte{2, 255, 255, 255, 255, 255, 255, 255, 255, 254, 255, 255, 255, 255, 255, 255, 255, 255, 255}},
		{[]int{math.MinInt, -1}, []byte{2, 255, 255, 255, 255, 255, 255, 255, 255, 255, 255, 255, 255, 255, 255, 255, 255, 255, 254}},
		{[]int{math.MaxInt, math.MaxInt}, []byte{2, 255, 255, 255, 255, 255, 255, 255, 255, 254, 0}},
		{[]int{math.MinInt, math.MinInt}, []byte{2, 255, 255, 255, 255, 255, 255, 255, 255, 255, 0}},
	} {
		mustPut(t, c.l, c.want)
		mustTake(t, c.want, c.l)
	}
}

// The length stands in one byte or in more.
func TestPutOfMany(t *testing.T) {
	for many, head := range map[int][]byte{246: {246}, 247: {247}, 248: {248, 248}, 255: {248, 255}, 256: {249, 1, 0}, 4095: {249, 15, 255}, 4096: {249, 16, 0}} {
		l := make([]int, many)
		mustPut(t, l, append(slices.Clone(head), make([]byte, many)...))
		for i := range l {
			l[i] = -i - 1
		}
		want := append(slices.Clone(head), bytes.Repeat([]byte{1}, many)...)
		mustPut(t, l, want)
		mustTake(t, want, l)
	}
}

func TestPutOfTooMany(t *testing.T) {
	for _, many := range []int{4097, 4098, 8192, 65536, 100000} {
		mustNotPut(t, make([]int, many), api.ErrLong)
		mustNotPut(t, slices.Repeat([]int{math.MinInt}, many), api.ErrLong)
		// That there are too many is told ahead of steps that are too far.
		mustNotPut(t, slices.Repeat([]int{math.MinInt, math.MaxInt}, many/2+1), api.ErrLong)
	}
}

func TestPutOfTooFar(t *testing.T) {
	for _, l := range [][]int{
		{math.MinInt, 1},
		{math.MinInt, 0},
		{-1, math.MaxInt},
		{1, math.MinInt},
		{math.MaxInt, -2},
		{math.MaxInt, math.MinInt},
		{math.MinInt, math.MaxInt},
		{-1 << 62, 1 << 62},
		{5, 7, math.MinInt},
		{5, 7, math.MinInt, 6},
		{math.MinInt, 0, 0, 0},
		append(make([]int, 4094), -1, math.MaxInt),
		append(make([]int, 4094), 1, math.MinInt),
	} {
		mustNotPut(t, l, api.ErrRange)
	}
}

// Before the first integer there is 0, from which every integer can be stepped to.
func TestPutOfOne(t *testing.T) {
	for _, n := range edges() {
		mustPut(t, []int{n}, encoded(1, n))
		mustTake(t, encoded(1, n), []int{n})
	}
}

func TestPutOfAny(t *testing.T) {
	done, refused := 0, 0
	count := func(ok bool) {
		if ok {
			done++
		} else {
			refused++
		}
	}
	for _, l := range smallLists() {
		count(mustPutAs(t, l))
	}
	chance := rand.New(rand.NewSource(3))
	for i := range 3000 {
		many := chance.Intn(40)
		if i%100 == 0 {
			many = 4098 - chance.Intn(4)
		}
		count(mustPutAs(t, someInts(chance, many)))
	}
	if done < 1000 || refused < 1000 {
		t.Errorf("%d lists had bytes and %d had none", done, refused)
	}
}

// Bytes that no list is encoded by: the forms that Put could answer, but for one thing.
func TestTakeOfWrongForms(t *testing.T) {
	most, least := math.MaxInt, math.MinInt
	for _, b := range [][]byte{
		nil,
		{},
		{0, 0},             // a byte behind the empty list
		{0, 10},            // a step behind it
		{1},                // no step
		{3, 10, 4},         // one too few
		{3, 10, 4, 1, 0},   // one too many
		{2, 10, 4, 1},      // a length that is too small
		{4, 10, 4, 1},      // and one that is too great
		{248, 3, 10, 4, 1}, // a length that is not its shortest encoding
		{249, 0, 3, 10, 4},
		{3, 248, 10, 4, 1}, // so a step
		{3, 10, 4, 248, 1},
		{3, 10, 4, 249, 0}, // too few bytes of a step
		{3, 10, 4, 248},
		{1, 255, 1, 2},
		{255, 1}, // and of the length
		{247}, {248}, {255},
		encoded(2, most, 1), // steps to what no int can hold
		encoded(2, most, most),
		encoded(2, 1, most),
		encoded(2, least, -1),
		encoded(2, least, least), // these sum up to 0 if they wrap round
		encoded(2, -1, least),
		encoded(2, 1<<62, 1<<62),
		encoded(2, -1<<62-1, -1<<62),
		encoded(3, 5, most, -5), // and back from it
		encoded(3, most, 1, least),
		encoded(3, least, -1, 1),
		encoded(3, most, most, 2),
		encoded(3, 0, most, 1),
		encoded(4, 1, 2, 3, most),
		encoded(4097, make([]int, 4097)...), // lists that are too long
		encoded(4098, make([]int, 4098)...),
		encoded(5000, make([]int, 5000)...),
		encoded(65536, make([]int, 65536)...),
		encoded(4097, make([]int, 4096)...),
		encoded(4096, make([]int, 4097)...),
		encoded(4096, make([]int, 4095)...),
		encoded(1<<32, 0), // lengths that a smaller integer could take for others
		encoded(1<<32+1, 0),
		encoded(1<<63, 0),
		encoded(1<<63+1, 0),
		encoded(1<<64-1, 0),
		encoded(1 << 32),
		encoded(1 << 63),
		encoded(1<<64 - 1),
		encoded(257, 0),
	} {
		if l, ok := taken(b); ok {
			t.Fatalf("the test is wrong: %d is Put of %d", b, l)
		}
		mustNotTake(t, b)
	}
}

// What is as near to those as can be, but is the bytes of a list.
func TestTakeOfEdges(t *testing.T) {
	mustTake(t, []byte{0}, nil)
	mustTake(t, encoded(2, math.MaxInt, 0), []int{math.MaxInt, math.MaxInt})
	mustTake(t, encoded(2, math.MaxInt-1, 1), []int{math.MaxInt - 1, math.MaxInt})
	mustTake(t, encoded(2, math.MaxInt, math.MinInt), []int{math.MaxInt, -1})
	mustTake(t, encoded(2, math.MinInt, math.MaxInt), []int{math.MinInt, -1})
	mustTake(t, encoded(2, math.MinInt+1, -1), []int{math.MinInt + 1, math.MinInt})
	mustTake(t, encoded(2, 1<<62, 1<<62-1), []int{1 << 62, math.MaxInt})
	mustTake(t, encoded(2, -1<<62, -1<<62), []int{-1 << 62, math.MinInt})
	mustTake(t, encoded(3, -5, math.MaxInt, 5), []int{-5, math.MaxInt - 5, math.MaxInt})
	mustTake(t, encoded(4096, make([]int, 4096)...), make([]int, 4096))
	mustTake(t, encoded(4095, make([]int, 4095)...), make([]int, 4095))
}

// Of all pairs of steps at the edges, those are taken whose sum an int can hold.
func TestTakeOfTwoSteps(t *testing.T) {
	done, refused := 0, 0
	for _, one := range edges() {
		for _, two := range edges() {
			if mustTakeAs(t, encoded(2, one, two)) {
				done++
			} else {
				refused++
			}
		}
	}
	if done < 100 || refused < 100 {
		t.Errorf("%d pairs of steps were taken and %d refused", done, refused)
	}
}

// All bytes of at most two, and all of at most six of a few sorts.
func TestTakeOfAllShortBytes(t *testing.T) {
	mustTakeAs(t, nil)
	for one := range 256 {
		mustTakeAs(t, []byte{byte(one)})
		for two := range 256 {
			mustTakeAs(t, []byte{byte(one), byte(two)})
		}
	}
	sorts := []byte{0, 1, 2, 3, 5, 247, 248, 249, 255}
	found := 0
	all := make([]byte, 6)
	var next func(at int)
	next = func(at int) {
		if at > 2 && mustTakeAs(t, all[:at]) {
			found++
		}
		if at == len(all) {
			return
		}
		for _, c := range sorts {
			all[at] = c
			next(at + 1)
		}
	}
	next(0)
	if found == 0 {
		t.Error("none of the bytes were those of a list")
	}
}

// Bytes of lists with one byte changed, or cut off anywhere, or with bytes behind.
func TestTakeOfSpoiltBytes(t *testing.T) {
	chance := rand.New(rand.NewSource(4))
	found := 0
	for range 300 {
		b, e := put(someInts(chance, 1+chance.Intn(40)))
		if e != api.OK {
			continue
		}
		for i := range b {
			for _, flip := range []byte{byte(1 + chance.Intn(255)), 1 << chance.Intn(8), 1} {
				spoilt := slices.Clone(b)
				spoilt[i] ^= flip
				if mustTakeAs(t, spoilt) {
					found++
				}
			}
			mustNotTake(t, b[:i])
		}
		mustNotTake(t, append(slices.Clone(b), 0))
		mustNotTake(t, append(slices.Clone(b), byte(chance.Intn(256))))
	}
	if found == 0 {
		t.Error("no spoilt bytes were those of another list")
	}
}

// A great many bytes are no list.
func TestTakeOfManyBytes(t *testing.T) {
	for _, c := range []byte{0, 1, 2, 247, 248, 249, 255} {
		b := bytes.Repeat([]byte{c}, 1<<20)
		mustNotTake(t, b)
		mustNotTake(t, append(encoded(4096), b...))
		mustNotTake(t, append(encoded(1<<64-1), b...))
	}
}

// Arguments are neither changed nor kept, nor read beyond their length; answers are memory of their own.
func TestBytesOwnTheirResults(t *testing.T) {
	numbers := []int{5, 7, 6, 6}
	kept, _ := Put(numbers[:3])
	for range 2 {
		b, e := Put(numbers[:3])
		if e != api.OK || !bytes.Equal(b, []byte{3, 10, 4, 1}) {
			t.Fatalf("Put is %d and error %d", b, e)
		}
		clear(b[:cap(b)])
	}
	if !slices.Equal(numbers, []int{5, 7, 6, 6}) {
		t.Errorf("Put changed its argument's memory: %d", numbers)
	}
	clear(numbers)
	if !bytes.Equal(kept, []byte{3, 10, 4, 1}) {
		t.Errorf("what Put answered became %d", kept)
	}
	memory := []byte{3, 10, 4, 1, 1}
	was := slices.Clone(memory)
	list, _ := Take(memory[:4])
	for range 2 {
		l, e := Take(memory[:4])
		if e != api.OK || !slices.Equal(l, []int{5, 7, 6}) {
			t.Fatalf("Take is %d and error %d", l, e)
		}
		clear(l[:cap(l)])
	}
	mustNotTake(t, memory[:3]) // the byte that is missing lies beyond the length
	if !bytes.Equal(memory, was) {
		t.Errorf("Take changed its argument's memory: %d", memory)
	}
	clear(memory)
	if !slices.Equal(list, []int{5, 7, 6}) {
		t.Errorf("what Take answered became %d", list)
	}
}
