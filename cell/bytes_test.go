package cell

import (
	"bytes"
	"math"
	"slices"
	"testing"

	"warp/api"
)

// P4.4: values as bytes, and from bytes again.

// bytesOf is values and their encodings, written out.
func bytesOf() []struct {
	v api.Value
	b []byte
} {
	return []struct {
		v api.Value
		b []byte
	}{
		{api.Value{}, []byte{0}},
		{api.Value{Kind: api.Bool, N: 0}, []byte{1, 0}},
		{api.Value{Kind: api.Bool, N: 1}, []byte{1, 2}},
		{api.Value{Kind: api.Int, N: 0}, []byte{2, 0}},
		{api.Value{Kind: api.Int, N: -1}, []byte{2, 1}},
		{api.Value{Kind: api.Int, N: 1}, []byte{2, 2}},
		{api.Value{Kind: api.Int, N: 123}, []byte{2, 246}},
		{api.Value{Kind: api.Int, N: -124}, []byte{2, 247}},
		{api.Value{Kind: api.Int, N: 124}, []byte{2, 248, 248}},
		{api.Value{Kind: api.Int, N: 128}, []byte{2, 249, 1, 0}},
		{api.Value{Kind: api.Int, N: math.MaxInt}, []byte{2, 255, 255, 255, 255, 255, 255, 255, 255, 254}},
		{api.Value{Kind: api.Int, N: math.MinInt}, []byte{2, 255, 255, 255, 255, 255, 255, 255, 255, 255}},
		{api.Value{Kind: api.Text, S: ""}, []byte{3, 0}},
		{api.Value{Kind: api.Text, S: "ab"}, []byte{3, 2, 97, 98}},
		{api.Value{Kind: api.Text, S: "\x00\xff"}, []byte{3, 2, 0, 255}},
		{api.Value{Kind: api.Text, S: longest()[:248]}, append([]byte{3, 248, 248}, longest()[:248]...)},
		{api.Value{Kind: api.Text, S: longest()}, append([]byte{3, 249, 4, 0}, longest()...)},
	}
}

// others is bytes that a value may be put behind, or before.
func others() [][]byte {
	return [][]byte{nil, {}, {0}, {9}, {3, 2}, {255, 0, 255}, bytes.Repeat([]byte{3}, 1000)}
}

func TestPut(t *testing.T) {
	for _, c := range bytesOf() {
		for _, head := range others() {
			if got := Put(head, c.v); !bytes.Equal(got, slices.Concat(head, c.b)) {
				t.Errorf("Put of %v behind %d bytes is %d", shown(c.v), len(head), got)
			}
		}
	}
}

func TestPutWrong(t *testing.T) {
	for _, v := range wrongValues() {
		for _, head := range others() {
			if got := Put(head, v); !bytes.Equal(got, slices.Concat(head, []byte{0})) {
				t.Errorf("Put of %v behind %d bytes is %d", shown(v), len(head), got)
			}
		}
	}
}

// Put changes neither its argument nor the memory beyond it, and answers memory of its own.
func TestPutLeavesTheArgument(t *testing.T) {
	for _, c := range bytesOf() {
		memory := bytes.Repeat([]byte{17}, 2000)
		b := memory[:4]
		one := Put(b, c.v)
		two := Put(b, c.v)
		if !bytes.Equal(memory, bytes.Repeat([]byte{17}, 2000)) {
			t.Errorf("Put of %v changed its argument's memory", shown(c.v))
		}
		for i := range one {
			one[i] = 99
		}
		if b[0] != 17 || two[0] != 17 {
			t.Errorf("Put of %v answers memory that is not its own", shown(c.v))
		}
		clear(memory)
		if two[0] != 17 {
			t.Errorf("Put of %v keeps its argument", shown(c.v))
		}
	}
}

// mustTake tells unless Take of b is v and rest.
func mustTake(t *testing.T, b []byte, v api.Value, rest []byte) {
	t.Helper()
	got, left, e := Take(b)
	if e != api.OK || got != v || !bytes.Equal(left, rest) {
		t.Errorf("Take of %d is %v, %d and error %d, not %v and %d", b, shown(got), left, e, shown(v), rest)
	}
}

// mustNotTake tells unless b begins with no value.
func mustNotTake(t *testing.T, b []byte) {
	t.Helper()
	v, left, e := Take(b)
	if e != api.ErrCorrupt || v != (api.Value{}) || len(left) != 0 {
		t.Errorf("Take of %d is %v, %d bytes and error %d", b, shown(v), len(left), e)
	}
}

func TestTake(t *testing.T) {
	for _, c := range bytesOf() {
		for _, rest := range others() {
			mustTake(t, slices.Concat(c.b, rest), c.v, rest)
		}
	}
}

// What is cut off anywhere is the encoding of no value.
func TestTakeCutOff(t *testing.T) {
	for _, c := range bytesOf() {
		for n := range c.b {
			mustNotTake(t, c.b[:n])
			mustNotTake(t, c.b[:n:n])
		}
	}
	mustNotTake(t, nil)
	mustNotTake(t, []byte{})
}

func TestTakeWrong(t *testing.T) {
	tail := bytes.Repeat([]byte{0}, 3000)
	for _, b := range [][]byte{
		{1, 1},   // the Bool of -1
		{1, 3},   // of -2
		{1, 4},   // of 2
		{1, 247}, // of -124
		{1, 248, 248},
		{1, 249, 2, 0}, // of 256, which a byte would take for 0
		{1, 249, 2, 2}, // of 257
		{1, 252, 1, 0, 0, 0, 0},
		{1, 255, 255, 255, 255, 255, 255, 255, 255, 255},
		{1, 248, 0}, // 0, in more bytes than it needs
		{1, 248, 2},
		{1, 249, 0, 2},
		{2, 248, 0},
		{2, 248, 247},
		{2, 249, 0, 248},
		{2, 255, 0, 1, 2, 3, 4, 5, 6, 7},
		{3, 248, 1, 97},
		{3, 249, 0, 248},
		{3, 249, 4, 1}, // a text of MaxText + 1 bytes
		{3, 249, 255, 255},
		{3, 251, 128, 0, 0, 0},
		{3, 255, 128, 0, 0, 0, 0, 0, 0, 0},
		{3, 255, 255, 255, 255, 255, 255, 255, 255, 255},
	} {
		mustNotTake(t, slices.Concat(b, tail))
		mustNotTake(t, b)
	}
}

// A Kind is one byte as it stands: neither a greater one nor an integer of more bytes is a Kind, whatever stands behind.
func TestTakeNoKind(t *testing.T) {
	for kind := 4; kind < 256; kind++ {
		for _, rest := range [][]byte{nil, {0}, {1}, {2}, {3}, {1, 0}, {1, 1}, {1, 2}, {1, 0, 0}, {1, 3, 0}, {0, 0, 0, 0, 0, 0, 1, 2}} {
			mustNotTake(t, append([]byte{byte(kind)}, rest...))
		}
	}
}

// shortEncodings is the encodings of at most four bytes, of values that those bytes can be part of: built without the calls that are tested.
func shortEncodings(letters []byte) map[string]api.Value {
	m := map[string]api.Value{"\x00": {}, "\x01\x00": {Kind: api.Bool}, "\x01\x02": {Kind: api.Bool, N: 1}}
	for u := range 1 << 16 {
		n := u / 2
		if u%2 == 1 {
			n = -1 - n
		}
		b := []byte{2, byte(u)}
		switch {
		case u >= 256:
			b = []byte{2, 249, byte(u >> 8), byte(u)}
		case u >= 248:
			b = []byte{2, 248, byte(u)}
		}
		m[string(b)] = api.Value{Kind: api.Int, N: n}
	}
	texts := []string{""}
	for _, c := range letters {
		texts = append(texts, string([]byte{c}))
		for _, d := range letters {
			texts = append(texts, string([]byte{c, d}))
		}
	}
	for _, s := range texts {
		m[string([]byte{3, byte(len(s))})+s] = api.Value{Kind: api.Text, S: s}
	}
	return m
}

func TestTakeAllShort(t *testing.T) {
	letters := []byte{0, 1, 2, 3, 4, 5, 97, 246, 247, 248, 249, 250, 255}
	known := shortEncodings(letters)
	all := [][]byte{nil}
	for i := 0; i < len(all); i++ {
		b := all[i]
		mustTakeAsKnown(t, known, b)
		if len(b) < 4 {
			for _, c := range letters {
				all = append(all, append(bytes.Clone(b), c))
			}
		}
	}
}

// mustTakeAsKnown tells unless Take of b is the value whose encoding b begins with.
func mustTakeAsKnown(t *testing.T, known map[string]api.Value, b []byte) {
	t.Helper()
	for n := range len(b) + 1 {
		if v, ok := known[string(b[:n])]; ok {
			mustTake(t, b, v, b[n:])
			return
		}
	}
	mustNotTake(t, b)
}

// Take changes nothing, reads nothing beyond the length of its argument, and answers memory of its own.
func TestTakeLeavesTheArgument(t *testing.T) {
	memory := []byte{3, 2, 97, 98, 7, 8, 9, 9}
	want := bytes.Clone(memory)
	v, one, e := Take(memory[:6])
	_, two, _ := Take(memory[:6])
	if e != api.OK || !bytes.Equal(one, []byte{7, 8}) || !bytes.Equal(memory, want) {
		t.Errorf("Take of %d is %v, %d and error %d, and leaves %d", want[:6], v, one, e, memory)
	}
	mustNotTake(t, memory[:3])
	mustNotTake(t, memory[:1])
	one[0] = 55
	_ = append(one, 66, 66)
	if !bytes.Equal(memory, want) || !bytes.Equal(two, []byte{7, 8}) {
		t.Error("Take answers memory that is not its own")
	}
	clear(memory)
	if v != (api.Value{Kind: api.Text, S: "ab"}) || !bytes.Equal(two, []byte{7, 8}) {
		t.Error("Take keeps its argument")
	}
}
