package runs

import (
	"bytes"
	"math"
	"math/rand"
	"slices"
	"testing"

	"warp/api"
)

// P9.2: Put and Take.

func TestPut(t *testing.T) {
	for _, c := range []struct {
		l    []int
		want []byte
	}{
		{nil, []byte{0}},
		{[]int{}, []byte{0}},
		{[]int{5, 5, 7}, []byte{2, 10, 2, 14, 1}},
		{[]int{0}, []byte{1, 0, 1}},
		{[]int{-1}, []byte{1, 1, 1}},
		{[]int{1, 1, 1}, []byte{1, 2, 3}},
		{[]int{0, 1, 0}, []byte{3, 0, 1, 2, 1, 0, 1}},
		{[]int{124, 124}, []byte{1, 248, 248, 2}},
		{[]int{math.MaxInt}, []byte{1, 255, 255, 255, 255, 255, 255, 255, 255, 254, 1}},
		{[]int{math.MinInt}, []byte{1, 255, 255, 255, 255, 255, 255, 255, 255, 255, 1}},
		{make([]int, 247), []byte{1, 0, 247}},
		{make([]int, 248), []byte{1, 0, 248, 248}},
		{make([]int, 256), []byte{1, 0, 249, 1, 0}},
		{make([]int, 4095), []byte{1, 0, 249, 15, 255}},
		{make([]int, 4096), []byte{1, 0, 249, 16, 0}},
	} {
		mustPut(t, c.l, c.want)
		mustTake(t, c.want, c.l)
	}
}

// A list without neighbours that are the same has a run for each integer.
func TestPutOfManyRuns(t *testing.T) {
	for many, head := range map[int][]byte{247: {247}, 248: {248, 248}, 255: {248, 255}, 256: {249, 1, 0}, 4095: {249, 15, 255}, 4096: {249, 16, 0}} {
		l, want := make([]int, many), head
		for i := range l {
			l[i] = i % 2
			want = append(want, byte(2*(i%2)), 1)
		}
		mustPut(t, l, want)
		mustTake(t, want, l)
	}
}

func TestPutOfTooMany(t *testing.T) {
	for _, many := range []int{4097, 4098, 8192, 65536, 100000} {
		for _, l := range [][]int{make([]int, many), slices.Repeat([]int{math.MinInt}, many), slices.Repeat([]int{4, 5}, many/2+1)} {
			if b, e := Put(l); e != api.ErrLong || len(b) != 0 {
				t.Errorf("Put of %d integers is %d bytes and error %d", len(l), len(b), e)
			}
		}
	}
}

func TestPutOfAny(t *testing.T) {
	chance := rand.New(rand.NewSource(2))
	for i := range 2000 {
		many := chance.Intn(60)
		if i%100 == 0 {
			many = 4096 - chance.Intn(3)
		}
		l := someInts(chance, many)
		mustPut(t, l, put(l))
		mustTake(t, put(l), l)
	}
	for _, n := range edges() {
		for _, m := range edges() {
			l := []int{n, m, m}
			mustPut(t, l, put(l))
			mustTake(t, put(l), l)
		}
	}
}

// Bytes that no list is encoded by: the forms that Put could answer, but for one thing.
func TestTakeOfWrongForms(t *testing.T) {
	bytesOfRuns := func(list []api.Run) []byte { return encoded(uint64(len(list)), list...) }
	wrong := [][]byte{
		nil,
		{},
		{0, 0},                // a byte behind the empty list
		{0, 10, 2},            // a run behind it
		{1},                   // no integer
		{1, 10},               // no number
		{1, 10, 0},            // a run without integers
		{2, 10, 2, 14, 0},     // the last one
		{2, 10, 0, 14, 1},     // the first one
		{2, 10, 2},            // one run too few
		{2, 10, 2, 14},        // half a run too few
		{1, 10, 2, 14, 1},     // one too many
		{2, 10, 2, 14, 1, 0},  // a byte too many
		{0, 10, 2, 14, 1},     // a number of runs that is too small
		{3, 10, 2, 14, 1},     // and one that is too great
		{2, 10, 2, 10, 1},     // two adjacent runs of the same integer
		{3, 10, 2, 14, 1, 14}, // and half of one
		{3, 10, 2, 14, 1, 14, 1},
		{3, 10, 2, 10, 2, 14, 1},
		{248, 2, 10, 2, 14, 1},    // a number of runs that is not its shortest encoding
		{2, 248, 10, 2, 14, 1},    // so an integer
		{2, 10, 248, 2, 14, 1},    // and how often it stands
		{1, 10, 249, 0, 255},      //
		{1, 10, 248},              // too few bytes of how often it stands
		{1, 255, 1, 2},            // and of the integer
		{255, 1},                  // and of the number of runs
		{1, 10, 249, 16, 1},       // a run that is too long
		{2, 10, 249, 16, 0, 2, 1}, // two that are too long together
		{2, 10, 1, 2, 249, 16, 0},
		{2, 10, 248, 255, 2, 249, 15, 2},
		{247}, {248}, {255}, {1, 247}, {1, 0, 248}, {1, 0, 255}, {1, 0, 1, 255},
		encoded(1<<32+1, runs(5, 2)...), // numbers of runs that a smaller integer could take for others
		encoded(1<<63, runs(5, 2)...),
		encoded(1<<63+1, runs(5, 2)...),
		encoded(1<<64-1, runs(5, 2)...),
		encoded(1<<32, runs()...),
		encoded(1<<63, runs()...),
		encoded(4097, runs(5, 2)...),
		encoded(257, runs(5, 2)...),
		bytes.Repeat([]byte{1}, 4099),
	}
	for _, l := range slices.Concat(again(), empty(), long()) {
		wrong = append(wrong, bytesOfRuns(l))
	}
	for _, b := range wrong {
		if l, ok := taken(b); ok {
			t.Fatalf("the test is wrong: %d is Put of %d", b, l)
		}
		mustNotTake(t, b)
	}
}

// What is as near to those as can be, but is the bytes of a list.
func TestTakeOfEdges(t *testing.T) {
	mustTake(t, []byte{0}, nil)
	mustTake(t, []byte{1, 10, 249, 16, 0}, slices.Repeat([]int{5}, 4096))
	mustTake(t, []byte{2, 10, 249, 15, 255, 2, 1}, append(slices.Repeat([]int{5}, 4095), 1))
	mustTake(t, []byte{2, 10, 248, 255, 2, 249, 15, 1}, append(slices.Repeat([]int{5}, 255), slices.Repeat([]int{1}, 3841)...))
	mustTake(t, []byte{3, 10, 2, 14, 1, 10, 1}, []int{5, 5, 7, 5})
	mustTake(t, []byte{2, 0, 1, 1, 1}, []int{0, -1})
	for _, l := range valid() {
		all, _ := flat(l)
		mustTake(t, encoded(uint64(len(l)), l...), all)
	}
}

// mustTakeAs tells unless Take answers as the parts of b tell.
func mustTakeAs(t *testing.T, b []byte) bool {
	t.Helper()
	want, ok := taken(b)
	if ok {
		mustTake(t, b, want)
		mustPut(t, want, b)
	} else {
		mustNotTake(t, b)
	}
	return ok
}

// All bytes of at most two, and all of at most six of a few sorts.
func TestTakeOfAllShortBytes(t *testing.T) {
	mustTakeAs(t, nil)
	for one := range 256 {
		mustTakeAs(t, []byte{byte(one)})
		for two := range 256 {
			mustTakeAs(t, []byte{byte(one), byte(two)})
		}
	}
	sorts := []byte{0, 1, 2, 3, 16, 247, 248, 249, 255}
	found := 0
	all := make([]byte, 6)
	var next func(at int)
	next = func(at int) {
		if at > 2 && mustTakeAs(t, all[:at]) {
			found++
		}
		if at == len(all) {
			return
		}
		for _, c := range sorts {
			all[at] = c
			next(at + 1)
		}
	}
	next(0)
	if found == 0 {
		t.Error("none of the bytes were those of a list")
	}
}

// Bytes of lists with one byte changed, or cut off anywhere, or with bytes behind.
func TestTakeOfSpoiltBytes(t *testing.T) {
	chance := rand.New(rand.NewSource(3))
	found := 0
	for range 300 {
		b := put(someInts(chance, 1+chance.Intn(40)))
		for i := range b {
			for _, flip := range []byte{byte(1 + chance.Intn(255)), 1 << chance.Intn(8), 1} {
				spoilt := slices.Clone(b)
				spoilt[i] ^= flip
				if mustTakeAs(t, spoilt) {
					found++
				}
			}
			mustNotTake(t, b[:i])
		}
		mustNotTake(t, append(slices.Clone(b), 0))
		mustNotTake(t, append(slices.Clone(b), byte(chance.Intn(256))))
	}
	if found == 0 {
		t.Error("no spoilt bytes were those of another list")
	}
}

// A great many bytes are no list.
func TestTakeOfManyBytes(t *testing.T) {
	for _, c := range []byte{0, 1, 2, 247, 248, 249, 255} {
		b := bytes.Repeat([]byte{c}, 1<<20)
		mustNotTake(t, b)
		mustNotTake(t, append(encoded(1<<64-1), b...))
	}
}

// Arguments are neither changed nor kept, nor read beyond their length; answers are memory of their own.
func TestBytesOwnTheirResults(t *testing.T) {
	numbers := []int{5, 5, 7, 7}
	kept, _ := Put(numbers[:3])
	for range 2 {
		b, e := Put(numbers[:3])
		if e != api.OK || !bytes.Equal(b, []byte{2, 10, 2, 14, 1}) {
			t.Fatalf("Put is %d and error %d", b, e)
		}
		clear(b[:cap(b)])
	}
	if !slices.Equal(numbers, []int{5, 5, 7, 7}) {
		t.Errorf("Put changed its argument's memory: %d", numbers)
	}
	clear(numbers)
	if !bytes.Equal(kept, []byte{2, 10, 2, 14, 1}) {
		t.Errorf("what Put answered became %d", kept)
	}
	memory := []byte{2, 10, 2, 14, 1, 14, 1}
	was := slices.Clone(memory)
	list, _ := Take(memory[:5])
	for range 2 {
		l, e := Take(memory[:5])
		if e != api.OK || !slices.Equal(l, []int{5, 5, 7}) {
			t.Fatalf("Take is %d and error %d", l, e)
		}
		clear(l[:cap(l)])
	}
	mustNotTake(t, memory[:4]) // the byte that is missing lies beyond the length
	if !bytes.Equal(memory, was) {
		t.Errorf("Take changed its argument's memory: %d", memory)
	}
	clear(memory)
	if !slices.Equal(list, []int{5, 5, 7}) {
		t.Errorf("what Take answered became %d", list)
	}
}
