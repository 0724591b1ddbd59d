package octets

import (
	"bytes"
	"strings"
	"testing"

	"warp/api"
)

// P1.2: what a reader decodes, and what makes it bad.

// mustBeBad tells unless r is bad and answers what a bad reader answers.
func mustBeBad(t *testing.T, about string, r *Reader) {
	t.Helper()
	for range 3 {
		if n := r.Num(); n != 0 {
			t.Errorf("%s: Num of a bad reader is %d", about, n)
		}
		if n := r.Int(); n != 0 {
			t.Errorf("%s: Int of a bad reader is %d", about, n)
		}
		if s := r.Text(); s != "" {
			t.Errorf("%s: Text of a bad reader is %q", about, s)
		}
		if n := r.Left(); n != 0 {
			t.Errorf("%s: a bad reader has %d bytes left", about, n)
		}
		if !r.Bad() {
			t.Errorf("%s: the reader is not bad", about)
		}
		if e := r.End(); e != api.ErrCorrupt {
			t.Errorf("%s: End of a bad reader is %d", about, e)
		}
	}
}

// badIntegers is bytes that begin with no integer, each with bytes behind that must not be read any more.
func badIntegers() [][]byte {
	return [][]byte{
		nil,
		{},
		{248},
		{249},
		{249, 1},
		{250, 1, 2},
		{251, 1, 2, 3},
		{252, 1, 2, 3, 4},
		{253, 1, 2, 3, 4, 5},
		{254, 1, 2, 3, 4, 5, 6},
		{255, 1, 2, 3, 4, 5, 6, 7},
		{248, 0, 1, 1},
		{248, 5, 1, 1},
		{248, 247, 1, 1},
		{249, 0, 0, 1},
		{249, 0, 255, 1},
		{250, 0, 255, 255, 1},
		{251, 0, 255, 255, 255, 1},
		{252, 0, 1, 2, 3, 4, 1},
		{253, 0, 1, 2, 3, 4, 5, 1},
		{254, 0, 1, 2, 3, 4, 5, 6, 1},
		{255, 0, 0, 0, 0, 0, 0, 0, 0, 1},
		{255, 0, 1, 2, 3, 4, 5, 6, 7, 1},
	}
}

func TestBadIntegers(t *testing.T) {
	for _, b := range badIntegers() {
		r := New(b)
		if n := r.Num(); n != 0 {
			t.Errorf("Num of %d is %d", b, n)
		}
		mustBeBad(t, "Num", r)
		r = New(b)
		if n := r.Int(); n != 0 {
			t.Errorf("Int of %d is %d", b, n)
		}
		mustBeBad(t, "Int", r)
		r = New(b)
		if s := r.Text(); s != "" {
			t.Errorf("Text of %d is %q", b, s)
		}
		mustBeBad(t, "Text", r)
	}
}

func TestBadTexts(t *testing.T) {
	long := strings.Repeat("x", 2000)
	for _, b := range [][]byte{
		{1},
		{2, 97},
		{3, 97, 98},
		{247, 1, 1},
		{248, 248, 1},
		append([]byte{249, 4, 0}, long[:1023]...),
		append([]byte{249, 4, 1}, long...),
		append([]byte{249, 4, 1}, long[:1025]...),
		append([]byte{249, 255, 255}, long...),
		append([]byte{251, 128, 0, 0, 0}, long...),
		append([]byte{252, 1, 0, 0, 0, 0}, long...),
		append([]byte{255, 128, 0, 0, 0, 0, 0, 0, 0}, long...),
		append([]byte{255, 255, 255, 255, 255, 255, 255, 255, 255}, long...),
	} {
		r := New(b)
		if s := r.Text(); s != "" {
			t.Errorf("Text of %d.. is %d bytes", b[0], len(s))
		}
		mustBeBad(t, "Text", r)
	}
}

func TestLongestText(t *testing.T) {
	s := strings.Repeat("\xff", api.MaxText-1) + "z"
	r := New(Num(Text(nil, s), 7))
	if got := r.Text(); got != s {
		t.Errorf("a text of MaxText bytes is decoded as %d bytes", len(got))
	}
	if r.Num() != 7 || r.End() != api.OK {
		t.Error("what stands behind a text of MaxText bytes is lost")
	}
	r = New(Num(Text(nil, s+"z"), 7))
	if got := r.Text(); got != "" {
		t.Errorf("a text of MaxText + 1 bytes is decoded as %d bytes", len(got))
	}
	mustBeBad(t, "MaxText + 1 bytes", r)
}

// step is a look at a reader: how many bytes are left, and what End answers.
func step(t *testing.T, r *Reader, left int, end api.Errno) {
	t.Helper()
	if r.Left() != left || r.End() != end || r.Bad() {
		t.Errorf("Left is %d, End %d, Bad %v; not %d, %d, false", r.Left(), r.End(), r.Bad(), left, end)
	}
}

func TestReaderConsumes(t *testing.T) {
	r := New([]byte{5, 249, 1, 0, 3, 248, 249, 2, 97, 98, 0, 0})
	step(t, r, 12, api.ErrCorrupt)
	if n := r.Num(); n != 5 {
		t.Error(n)
	}
	step(t, r, 11, api.ErrCorrupt)
	if n := r.Num(); n != 256 {
		t.Error(n)
	}
	step(t, r, 8, api.ErrCorrupt)
	if n := r.Int(); n != -2 {
		t.Error(n)
	}
	step(t, r, 7, api.ErrCorrupt)
	if n := r.Int(); n != -125 {
		t.Error(n)
	}
	step(t, r, 5, api.ErrCorrupt)
	if s := r.Text(); s != "ab" {
		t.Error(s)
	}
	step(t, r, 2, api.ErrCorrupt)
	if s := r.Text(); s != "" {
		t.Error(s)
	}
	step(t, r, 1, api.ErrCorrupt)
	if n := r.Int(); n != 0 {
		t.Error(n)
	}
	step(t, r, 0, api.OK)
}

func TestReaderWithoutBytes(t *testing.T) {
	for _, b := range [][]byte{nil, {}} {
		r := New(b)
		step(t, r, 0, api.OK)
		r.Text()
		mustBeBad(t, "no bytes", r)
	}
}

func TestReaderTurnsBadLate(t *testing.T) {
	r := New([]byte{1, 248, 3, 5, 5, 5})
	if n := r.Num(); n != 1 {
		t.Error(n)
	}
	step(t, r, 5, api.ErrCorrupt)
	if n := r.Int(); n != 0 {
		t.Error(n)
	}
	mustBeBad(t, "late", r)
}

func TestNilReader(t *testing.T) {
	mustBeBad(t, "nil", nil)
}

// A reader keeps no memory of its caller's, changes none, and reads none beyond the length.
func TestReaderHasItsOwnBytes(t *testing.T) {
	memory := []byte{2, 97, 98, 249, 1, 0, 7}
	r := New(memory[:6])
	other := New(memory[:5])
	copy(memory, []byte{1, 1, 1, 1, 1, 1, 1})
	if r.Text() != "ab" || r.Num() != 256 || r.End() != api.OK {
		t.Error("the reader sees what its caller changed")
	}
	if other.Text() != "ab" || other.Num() != 0 || !other.Bad() {
		t.Error("the reader read beyond the length")
	}
	if !bytes.Equal(memory, []byte{1, 1, 1, 1, 1, 1, 1}) {
		t.Error("the reader changed its caller's memory")
	}
}
