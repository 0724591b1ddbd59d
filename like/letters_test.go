package like

import (
	"math/rand"
	"slices"
	"strings"
	"testing"
	"unicode/utf8"

	"warp/api"
)

// P3.1: the characters of a string, and which strings are patterns.

// decoded is the characters of s, by the decoder of the library and not by a range over s.
func decoded(s string) []string {
	var l []string
	for len(s) > 0 {
		_, size := utf8.DecodeRuneInString(s)
		l = append(l, s[:size])
		s = s[size:]
	}
	return l
}

// oddLetters is characters, with all that are special to patterns and many that are no valid encoding, or none alone.
func oddLetters() []string {
	return []string{"a", "b", "%", "_", `\`, "\x00", "\x7f", "é", "\xc3", "\xa9", "€", "\xe2", "\x82", "\xac", "\xe2\x82", "\U0001F600", "\xf0\x9f", "\ufffd", "\xff", "\xfe", "\xc0\x80", "\xed\xa0\x80"}
}

// someText is up to most of those pieces, one behind another.
func someText(chance *rand.Rand, pieces []string, most int) string {
	var b strings.Builder
	for range chance.Intn(most + 1) {
		b.WriteString(pieces[chance.Intn(len(pieces))])
	}
	return b.String()
}

// texts is all sequences of up to most of those pieces.
func texts(pieces []string, most int) []string {
	l := []string{""}
	from := 0
	for range most {
		till := len(l)
		for _, s := range l[from:till] {
			for _, p := range pieces {
				l = append(l, s+p)
			}
		}
		from = till
	}
	return l
}

func TestLetters(t *testing.T) {
	for s, want := range map[string][]string{
		"":                 nil,
		"a":                {"a"},
		"abc":              {"a", "b", "c"},
		"aa":               {"a", "a"},
		`%_\`:              {"%", "_", `\`},
		"\x00\x7f":         {"\x00", "\x7f"},
		"aéz":              {"a", "é", "z"},
		"é€\U0001F600":     {"é", "€", "\U0001F600"},
		"e\u0301":          {"e", "\u0301"},
		"\ufffd":           {"\ufffd"},
		"\xff":             {"\xff"},
		"\xc3":             {"\xc3"},
		"\xa9":             {"\xa9"},
		"\xa9\xc3":         {"\xa9", "\xc3"},
		"a\xc3b":           {"a", "\xc3", "b"},
		"\xe2\x82":         {"\xe2", "\x82"},
		"\xe2\x82\xe2":     {"\xe2", "\x82", "\xe2"},
		"\xe2\xe2\x82\xac": {"\xe2", "€"},
		"€\xac":            {"€", "\xac"},
		"\xf0\x9f\x98":     {"\xf0", "\x9f", "\x98"},
		"\xc0\x80":         {"\xc0", "\x80"},
		"\xe0\x80\x80":     {"\xe0", "\x80", "\x80"},
		"\xed\xa0\x80":     {"\xed", "\xa0", "\x80"},
		"\xf4\x90\x80\x80": {"\xf4", "\x90", "\x80", "\x80"},
		"\xff\ufffd\xff":   {"\xff", "\ufffd", "\xff"},
	} {
		if got := Letters(s); !slices.Equal(got, want) {
			t.Errorf("Letters of %q is %q, not %q", s, got, want)
		}
	}
}

func TestLettersOfAnyText(t *testing.T) {
	chance := rand.New(rand.NewSource(1))
	for range 20000 {
		s := someText(chance, oddLetters(), 12)
		got := Letters(s)
		if want := decoded(s); !slices.Equal(got, want) {
			t.Errorf("Letters of %q is %q, not %q", s, got, want)
		}
		if all := strings.Join(got, ""); all != s {
			t.Errorf("the letters of %q are together %q", s, all)
		}
	}
}

func TestLettersOwnTheirResult(t *testing.T) {
	one, two := Letters("abé"), Letters("abé")
	one[0], one[2] = "x", "y"
	_ = append(one, "z")
	if !slices.Equal(two, []string{"a", "b", "é"}) {
		t.Errorf("two results share memory: %q", two)
	}
}

// patterns is strings that are patterns, with the places of escapes that none may take for an escape at the end.
func patterns() []string {
	return []string{"", "a", "%", "_", "%%", `\\`, `\\\\`, `\%`, `\_`, `\a`, `\\\%`, `\\%`, `\é`, "\\\xff", "\\\x00", `a\\`, `a\\b`, `%\\%`, "\xff", "\xc3", "é\xa9"}
}

// noPatterns is strings at whose end a backslash begins an element.
func noPatterns() []string {
	return []string{`\`, `\\\`, `\\\\\`, `a\`, `%\`, `_\`, `%%\`, `\%\`, `\_\`, `\a\`, `\\%\`, `é\`, "\xff\\", "\\\xff\\", "\xc3\\", "\xe2\x82\\", `a\\\`, "\x00\\"}
}

func TestCheck(t *testing.T) {
	for _, p := range patterns() {
		if e := Check(p); e != api.OK {
			t.Errorf("Check of %q is %d", p, e)
		}
	}
	for _, p := range noPatterns() {
		if e := Check(p); e != api.ErrLike {
			t.Errorf("Check of %q is %d", p, e)
		}
	}
}

// A backslash begins an element if an even number of backslashes stands right before it.
func TestCheckCountsBackslashes(t *testing.T) {
	chance := rand.New(rand.NewSource(2))
	for range 20000 {
		p := someText(chance, append(oddLetters(), `\`, `\\`), 8)
		want := api.OK
		if ends := len(p) - len(strings.TrimRight(p, `\`)); ends%2 == 1 {
			want = api.ErrLike
		}
		if e := Check(p); e != want {
			t.Errorf("Check of %q is %d, not %d", p, e, want)
		}
	}
}
