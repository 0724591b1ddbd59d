package octets

import (
	"bytes"
	"strings"
	"testing"
)

// P1.1: what Num, Int and Text append.

func TestNumBytes(t *testing.T) {
	for _, c := range []struct {
		n    uint64
		want []byte
	}{
		{0, []byte{0}},
		{5, []byte{5}},
		{127, []byte{127}},
		{128, []byte{128}},
		{246, []byte{246}},
		{247, []byte{247}},
		{248, []byte{248, 248}},
		{249, []byte{248, 249}},
		{255, []byte{248, 255}},
		{256, []byte{249, 1, 0}},
		{1<<16 - 1, []byte{249, 255, 255}},
		{1 << 16, []byte{250, 1, 0, 0}},
		{1<<24 - 1, []byte{250, 255, 255, 255}},
		{1 << 24, []byte{251, 1, 0, 0, 0}},
		{1<<32 - 1, []byte{251, 255, 255, 255, 255}},
		{1 << 32, []byte{252, 1, 0, 0, 0, 0}},
		{1<<40 - 1, []byte{252, 255, 255, 255, 255, 255}},
		{1 << 40, []byte{253, 1, 0, 0, 0, 0, 0}},
		{1<<48 - 1, []byte{253, 255, 255, 255, 255, 255, 255}},
		{1 << 48, []byte{254, 1, 0, 0, 0, 0, 0, 0}},
		{1<<56 - 1, []byte{254, 255, 255, 255, 255, 255, 255, 255}},
		{1 << 56, []byte{255, 1, 0, 0, 0, 0, 0, 0, 0}},
		{0x0123456789abcdef, []byte{255, 0x01, 0x23, 0x45, 0x67, 0x89, 0xab, 0xcd, 0xef}},
		{1 << 63, []byte{255, 128, 0, 0, 0, 0, 0, 0, 0}},
		{1<<64 - 1, []byte{255, 255, 255, 255, 255, 255, 255, 255, 255}},
	} {
		if got := Num(nil, c.n); !bytes.Equal(got, c.want) {
			t.Errorf("Num of %d is %d, not %d", c.n, got, c.want)
		}
	}
}

func TestIntBytes(t *testing.T) {
	for _, c := range []struct {
		n    int
		want []byte
	}{
		{0, []byte{0}},
		{-1, []byte{1}},
		{1, []byte{2}},
		{-2, []byte{3}},
		{2, []byte{4}},
		{123, []byte{246}},
		{-124, []byte{247}},
		{124, []byte{248, 248}},
		{-125, []byte{248, 249}},
		{127, []byte{248, 254}},
		{-128, []byte{248, 255}},
		{128, []byte{249, 1, 0}},
		{-129, []byte{249, 1, 1}},
		{1<<63 - 1, []byte{255, 255, 255, 255, 255, 255, 255, 255, 254}},
		{-1 << 63, []byte{255, 255, 255, 255, 255, 255, 255, 255, 255}},
	} {
		if got := Int(nil, c.n); !bytes.Equal(got, c.want) {
			t.Errorf("Int of %d is %d, not %d", c.n, got, c.want)
		}
	}
}

func TestTextBytes(t *testing.T) {
	for _, c := range []struct {
		s    string
		head []byte
	}{
		{"", []byte{0}},
		{"ab", []byte{2}},
		{"\x00", []byte{1}},
		{"\xff\x80é", []byte{4}},
		{strings.Repeat("x", 247), []byte{247}},
		{strings.Repeat("x", 248), []byte{248, 248}},
		{strings.Repeat("x", 256), []byte{249, 1, 0}},
		{strings.Repeat("x", 1024), []byte{249, 4, 0}},
		{strings.Repeat("x", 1025), []byte{249, 4, 1}},
		{strings.Repeat("x", 70000), []byte{250, 1, 17, 112}},
	} {
		want := append(bytes.Clone(c.head), c.s...)
		if got := Text(nil, c.s); !bytes.Equal(got, want) {
			t.Errorf("Text of %d bytes is %d, not %d", len(c.s), got, want)
		}
	}
}

// encoders is each encoder, with what it appends.
func encoders() map[string]struct {
	call func(b []byte) []byte
	adds []byte
} {
	return map[string]struct {
		call func(b []byte) []byte
		adds []byte
	}{
		"Num":         {func(b []byte) []byte { return Num(b, 300) }, []byte{249, 1, 44}},
		"Num, short":  {func(b []byte) []byte { return Num(b, 7) }, []byte{7}},
		"Int":         {func(b []byte) []byte { return Int(b, -1) }, []byte{1}},
		"Text":        {func(b []byte) []byte { return Text(b, "ab") }, []byte{2, 97, 98}},
		"Text, empty": {func(b []byte) []byte { return Text(b, "") }, []byte{0}},
	}
}

func TestEncodersAppend(t *testing.T) {
	for name, e := range encoders() {
		for _, b := range [][]byte{nil, {}, {9}, {255, 0, 255}, bytes.Repeat([]byte{3}, 1000)} {
			want := append(bytes.Clone(b), e.adds...)
			if got := e.call(b); !bytes.Equal(got, want) {
				t.Errorf("%s behind %d is %d", name, b, got)
			}
		}
	}
}

// An encoder changes neither its argument nor the memory beyond it, and answers memory of its own.
func TestEncodersLeaveTheArgument(t *testing.T) {
	for name, e := range encoders() {
		memory := bytes.Repeat([]byte{17}, 64)
		b := memory[:4]
		one := e.call(b)
		two := e.call(b)
		if !bytes.Equal(memory, bytes.Repeat([]byte{17}, 64)) {
			t.Errorf("%s changed its argument's memory: %d", name, memory)
		}
		for i := range one {
			one[i] = 99
		}
		if b[0] != 17 || two[0] != 17 {
			t.Errorf("%s answers memory that is not its own", name)
		}
		clear(memory)
		if two[0] != 17 {
			t.Errorf("%s keeps its argument", name)
		}
	}
}
