package like

import (
	"math/rand"
	"strings"
	"testing"

	"warp/api"
)

// P3.3: the literal prefix of a pattern, and the pattern of one string.

// mustFix tells unless Fixed of p is want and whole.
func mustFix(t *testing.T, p, want string, whole bool) {
	t.Helper()
	if s, w, e := Fixed(p); e != api.OK || s != want || w != whole {
		t.Errorf("Fixed of %q is %q, %t and error %d, not %q and %t", p, s, w, e, want, whole)
	}
}

func TestFixed(t *testing.T) {
	for _, c := range []struct {
		p, want string
		whole   bool
	}{
		{"", "", true},
		{"abc", "abc", true},
		{"%", "", false},
		{"_", "", false},
		{"%abc", "", false},
		{"_abc", "", false},
		{"abc%", "abc", false},
		{"abc_", "abc", false},
		{"a%b%c", "a", false},
		{"a_b%c", "a", false},
		{"ab%c_d", "ab", false},
		{"%%", "", false},
		{`ab\_c%d`, "ab_c", false},
		{`ab\_cd`, "ab_cd", true},
		{`100\%`, "100%", true},
		{`\%`, "%", true},
		{`\_`, "_", true},
		{`\\`, `\`, true},
		{`\\%`, `\`, false},
		{`\\\%`, `\%`, true},
		{`\\_`, `\`, false},
		{`\a\b`, "ab", true},
		{`a%\%`, "a", false},
		{"é%", "é", false},
		{`\é_`, "é", false},
		{"\xff", "\xff", true},
		{"\xff%", "\xff", false},
		{"\\\xff_", "\xff", false},
		{"\ufffd%", "\ufffd", false},
		{"\xc3\\\xa9", "é", true},
		{"\xc3%\xa9", "\xc3", false},
	} {
		mustFix(t, c.p, c.want, c.whole)
	}
}

func TestFixedNoPattern(t *testing.T) {
	for _, p := range noPatterns() {
		if s, whole, e := Fixed(p); e != api.ErrLike || s != "" || whole {
			t.Errorf("Fixed of %q is %q, %t and error %d", p, s, whole, e)
		}
	}
}

func TestFixedOfAnyPattern(t *testing.T) {
	chance := rand.New(rand.NewSource(4))
	for range 20000 {
		p := someText(chance, append(oddLetters(), `\%`, `\_`, `\\`), 8)
		l, ok := parts(p)
		if !ok {
			continue
		}
		want, whole := "", true
		for _, x := range l {
			if x.own == "" {
				whole = false
				break
			}
			want += x.own
		}
		mustFix(t, p, want, whole)
	}
}

func TestQuote(t *testing.T) {
	for s, want := range map[string]string{
		"":             "",
		"abc":          "abc",
		"5%":           `5\%`,
		"%":            `\%`,
		"_":            `\_`,
		`\`:            `\\`,
		`\\`:           `\\\\`,
		`\%`:           `\\\%`,
		`%_\`:          `\%\_\\`,
		"a_b":          `a\_b`,
		"%a":           `\%a`,
		"%%":           `\%\%`,
		"é%€":          `é\%€`,
		"\xff":         "\xff",
		"\xff%\xff":    "\xff\\%\xff",
		"\xe2\x82_":    "\xe2\x82\\_",
		"\xc3\\\xa9":   "\xc3\\\\\xa9",
		"\ufffd\xff\\": "\ufffd\xff\\\\",
		"\x00%\x00":    "\x00\\%\x00",
	} {
		if got := Quote(s); got != want {
			t.Errorf("Quote of %q is %q, not %q", s, got, want)
		}
	}
}

func TestQuoteOfAnyText(t *testing.T) {
	chance := rand.New(rand.NewSource(5))
	escape := strings.NewReplacer("%", `\%`, "_", `\_`, `\`, `\\`)
	for range 20000 {
		s := someText(chance, oddLetters(), 8)
		if got, want := Quote(s), escape.Replace(s); got != want {
			t.Errorf("Quote of %q is %q, not %q", s, got, want)
		}
	}
}
