package cell

import (
	"errors"
	"math"
	"testing"

	"warp/api"
)

// P4.3: values as Go's own types, and back.

func TestBox(t *testing.T) {
	for _, c := range []struct {
		v    api.Value
		want any
	}{
		{api.Value{}, nil},
		{api.Value{Kind: api.Bool, N: 0}, false},
		{api.Value{Kind: api.Bool, N: 1}, true},
		{api.Value{Kind: api.Int, N: 0}, 0},
		{api.Value{Kind: api.Int, N: 1}, 1},
		{api.Value{Kind: api.Int, N: -7}, -7},
		{api.Value{Kind: api.Int, N: math.MinInt}, math.MinInt},
		{api.Value{Kind: api.Int, N: math.MaxInt}, math.MaxInt},
		{api.Value{Kind: api.Text, S: ""}, ""},
		{api.Value{Kind: api.Text, S: "a\x00\xff"}, "a\x00\xff"},
		{api.Value{Kind: api.Text, S: longest()}, longest()},
	} {
		if got := Box(c.v); got != c.want {
			t.Errorf("Box of %v is %v", shown(c.v), got)
		}
		if got, ok := Unbox(c.want); !ok || got != c.v {
			t.Errorf("Unbox of %v is %v, %t", c.want, shown(got), ok)
		}
	}
}

func TestBoxOfWrong(t *testing.T) {
	for _, v := range wrongValues() {
		if got := Box(v); got != nil {
			t.Errorf("Box of %v is not nil", shown(v))
		}
	}
}

type ownBool bool
type ownInt int
type ownString string

// otherTypes is values of Go that are neither nil nor a bool, an int or a string.
func otherTypes() []any {
	one, yes, word := 1, true, "a"
	return []any{
		5.0, float32(5), complex(5, 0), complex64(5),
		int8(5), int16(5), int32(5), int64(5), 'a',
		uint(5), uint8(5), uint16(5), uint32(5), uint64(5), uintptr(5),
		ownBool(true), ownInt(5), ownString("a"), api.OK, api.ErrArg,
		&one, &yes, &word, (*int)(nil), (*bool)(nil), (*string)(nil), error(plainError{}), errors.New("a"),
		[]byte("a"), []rune("a"), []int{1}, []string{"a"}, []any{1}, []byte(nil), []any(nil),
		[1]int{1}, [0]string{}, [1]any{[]int{1}},
		map[string]int{"a": 1}, map[int]bool(nil),
		struct{}{}, struct{ N int }{1}, struct{ x any }{[]int{1}}, api.Value{}, api.Value{Kind: api.Int, N: 5}, api.Row{{}},
		func() {}, func() int { return 1 }, (func() string)(nil), make(chan int), (chan string)(nil),
	}
}

// plainError is an error that is a struct.
type plainError struct{}

func (plainError) Error() string { return "a" }

func TestUnboxOtherTypes(t *testing.T) {
	for _, x := range otherTypes() {
		if v, ok := Unbox(x); ok || v != (api.Value{}) {
			t.Errorf("Unbox of a %T is %v, %t", x, v, ok)
		}
	}
}

func TestUnboxNil(t *testing.T) {
	var e error
	for _, x := range []any{nil, e, Box(api.Value{}), Box(api.Value{Kind: 9})} {
		if v, ok := Unbox(x); !ok || v != (api.Value{}) {
			t.Errorf("Unbox of nil is %v, %t", v, ok)
		}
	}
}

func TestUnboxLongTexts(t *testing.T) {
	for _, s := range []string{longest(), longest()[1:]} {
		if v, ok := Unbox(s); !ok || v != (api.Value{Kind: api.Text, S: s}) {
			t.Errorf("Unbox of %d bytes is %v, %t", len(s), shown(v), ok)
		}
	}
	for _, s := range []string{longest() + "x", longest() + "\x00", longest() + longest()} {
		if v, ok := Unbox(s); ok || v != (api.Value{}) {
			t.Errorf("Unbox of %d bytes is %v, %t", len(s), shown(v), ok)
		}
	}
}

// panics tells whether f does.
func panics(f func()) (did bool) {
	defer func() { did = recover() != nil }()
	f()
	return false
}

func TestNumber(t *testing.T) {
	for _, n := range []int{0, 1, -1, 5, math.MinInt, math.MaxInt} {
		if got := Number(n); got != n {
			t.Errorf("Number of %d is %d", n, got)
		}
		if got := Number(Box(api.Value{Kind: api.Int, N: n})); got != n {
			t.Errorf("Number of the box of %d is %d", n, got)
		}
	}
	for _, x := range append(otherTypes(), nil, true, false, "", "5", longest()) {
		if !panics(func() { Number(x) }) {
			t.Errorf("Number of a %T does not panic", x)
		}
	}
}

// Word is for all strings, even those that no value may have.
func TestWord(t *testing.T) {
	for _, s := range []string{"", "a", "\x00\xff", "é", longest(), longest() + "x"} {
		if got := Word(s); got != s {
			t.Errorf("Word of %d bytes is %d bytes", len(s), len(got))
		}
	}
	if got := Word(Box(api.Value{Kind: api.Text, S: "a"})); got != "a" {
		t.Errorf("Word of the box of a is %q", got)
	}
	for _, x := range append(otherTypes(), nil, true, false, 0, 5) {
		if !panics(func() { Word(x) }) {
			t.Errorf("Word of a %T does not panic", x)
		}
	}
}

// The examples of the chapter.
func TestBoxExamples(t *testing.T) {
	if v, ok := Unbox(5); !ok || v != (api.Value{Kind: api.Int, N: 5}) {
		t.Errorf("Unbox of 5 is %v, %t", v, ok)
	}
	if v, ok := Unbox(5.0); ok || v != (api.Value{}) {
		t.Errorf("Unbox of 5.0 is %v, %t", v, ok)
	}
	if !panics(func() { Number("5") }) {
		t.Error("Number of a string does not panic")
	}
}
