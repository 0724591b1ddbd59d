package like

import (
	"math/rand"
	"strings"
	"testing"

	"warp/api"
)

// P3.2: which strings a pattern matches.

// part is an element as the document has it: own is its character, or nothing for _ (any one character) and % (many).
type part struct {
	own  string
	many bool
}

// parts is the elements of a pattern, read from its characters; false: it is none.
func parts(p string) ([]part, bool) {
	var l []part
	letters := decoded(p)
	for i := 0; i < len(letters); i++ {
		switch letters[i] {
		case "%":
			l = append(l, part{many: true})
		case "_":
			l = append(l, part{})
		case `\`:
			i++
			if i == len(letters) {
				return nil, false
			}
			l = append(l, part{own: letters[i]})
		default:
			l = append(l, part{own: letters[i]})
		}
	}
	return l, true
}

// split tells whether letters can be split among l: by all ways to do so.
func split(l []part, letters []string) bool {
	if len(l) == 0 {
		return len(letters) == 0
	}
	if l[0].many {
		for n := range len(letters) + 1 {
			if split(l[1:], letters[n:]) {
				return true
			}
		}
		return false
	}
	return len(letters) > 0 && (l[0].own == "" || l[0].own == letters[0]) && split(l[1:], letters[1:])
}

// mustMatch tells unless Match of p and s is want.
func mustMatch(t *testing.T, p, s string, want bool) {
	t.Helper()
	if got, e := Match(p, s); e != api.OK || got != want {
		t.Errorf("Match of %q and %q is %t and error %d, not %t", p, s, got, e, want)
	}
}

// mustMatchAsSplit tells unless Match of p and s is what trying all ways to split s yields.
func mustMatchAsSplit(t *testing.T, p, s string) {
	t.Helper()
	l, ok := parts(p)
	if ok {
		mustMatch(t, p, s, split(l, decoded(s)))
	} else if got, e := Match(p, s); e != api.ErrLike || got {
		t.Errorf("Match of %q and %q is %t and error %d", p, s, got, e)
	}
}

func TestMatch(t *testing.T) {
	for _, c := range []struct {
		p         string
		are, arnt []string
	}{
		{"", []string{""}, []string{"a", "%", "\x00", "\xff"}},
		{"abc", []string{"abc"}, []string{"", "ab", "abcd", "aabc", "abC", "bc", "abd"}},
		{"a%", []string{"a", "ab", "abc", "aa", "a%", "a\xff"}, []string{"", "b", "ba", "%"}},
		{"%c", []string{"c", "abc", "cc", "\xffc"}, []string{"", "ca", "cb", "b"}},
		{"_b_", []string{"abc", "bbb", "ébé", "\xffb\xff", "%b_"}, []string{"", "b", "ab", "bc", "abbc", "aabc", "acb"}},
		{"a_", []string{"ab", "a_", "aé", "a\xc3", "a\\"}, []string{"abc", "a", "", "ba", "a\xc3\xff"}},
		{"_", []string{"a", "é", "€", "\U0001F600", "\xff", "\xc3", "\ufffd", "%", "_", `\`, "\x00"}, []string{"", "ab", "\xe2\x82", "e\u0301"}},
		{"__", []string{"ab", "\xe2\x82", "é\xa9"}, []string{"", "a", "é", "€", "abc"}},
		{"%", []string{"", "a", "abc", "\xff\xff", "%"}, nil},
		{"%%", []string{"", "a", "abc"}, nil},
		{"%_", []string{"a", "abc", "\xff"}, []string{""}},
		{"_%", []string{"a", "abc", "\xff"}, []string{""}},
		{"%_%_%", []string{"ab", "abc", "\xff\xff"}, []string{"", "a", "é"}},
		{"a%c", []string{"ac", "abc", "abbc", "acbc", "acc"}, []string{"", "a", "c", "acb", "bac"}},
		{"%b%", []string{"b", "ab", "bc", "abc", "bb"}, []string{"", "a", "acd"}},
		{"a%b%c", []string{"abc", "aabbcc", "acbc", "abcbc", "axbxc"}, []string{"acb", "ac", "ab", "bc", "abcb"}},
		{"%ab%ab", []string{"abab", "ababab", "aabab", "abxab", "abaab"}, []string{"ab", "aab", "abb", "aba", "ababa"}},
		{"%aab", []string{"aab", "aaab", "aaaab", "abaab"}, []string{"ab", "aaba", "baba"}},
		{"%a_b", []string{"aab", "axb", "aaab", "axbaxb"}, []string{"ab", "axxb", "axba"}},
	} {
		for _, s := range c.are {
			mustMatch(t, c.p, s, true)
		}
		for _, s := range c.arnt {
			mustMatch(t, c.p, s, false)
		}
	}
}

func TestMatchEscaped(t *testing.T) {
	for _, c := range []struct {
		p         string
		are, arnt []string
	}{
		{`100\%`, []string{"100%"}, []string{"100", `100\%`, "1000", `100\`, "100%%"}},
		{`\%`, []string{"%"}, []string{"", "a", `\%`, `\`}},
		{`\_`, []string{"_"}, []string{"", "a", `\_`, `\`}},
		{`\\`, []string{`\`}, []string{"", `\\`, "a"}},
		{`\a`, []string{"a"}, []string{"", `\a`, `\`, "b"}},
		{`\é`, []string{"é"}, []string{"", "\xc3", "\xa9", `\é`, "e"}},
		{"\\\xff", []string{"\xff"}, []string{"", "\ufffd", "\xfe", "\\\xff"}},
		{`\\%`, []string{`\`, `\\`, `\a`, `\%`}, []string{"", "%", "a"}},
		{`\\\%`, []string{`\%`}, []string{`\`, `\\%`, `\a`, "%"}},
		{`\\_`, []string{`\a`, `\_`, `\\`}, []string{`\`, "_", "a"}},
		{`%\%%`, []string{"%", "a%", "%a", "a%b", "%%"}, []string{"", "a", `\`}},
		{`_\__`, []string{"a_b", "___"}, []string{"abc", "__", `a\_b`}},
	} {
		for _, s := range c.are {
			mustMatch(t, c.p, s, true)
		}
		for _, s := range c.arnt {
			mustMatch(t, c.p, s, false)
		}
	}
}

// Where no valid encoding begins, a byte is a character of its own: another byte is another one, and none of them is the character that replaces them elsewhere.
func TestMatchBytes(t *testing.T) {
	mustMatch(t, "\xff", "\xff", true)
	mustMatch(t, "\xff", "\xfe", false)
	mustMatch(t, "\xff", "\ufffd", false)
	mustMatch(t, "\ufffd", "\xff", false)
	mustMatch(t, "\ufffd", "\ufffd", true)
	mustMatch(t, "\xc3%", "é", false)
	mustMatch(t, "%\xa9", "é", false)
	mustMatch(t, "%\xa9%", "é", false)
	mustMatch(t, "\xc3%", "\xc3", true)
	mustMatch(t, "\xc3%", "\xc3a", true)
	mustMatch(t, "%\xa9", "a\xa9", true)
	mustMatch(t, "\xc3_", "é", false)
	mustMatch(t, "\xc3\\\xa9", "é", false) // two characters, whose bytes are those of one
	mustMatch(t, "é", "é", true)
	mustMatch(t, "\xe2\x82%", "€", false)
	mustMatch(t, "\xe2\x82%", "\xe2\x82", true)
}

func TestMatchNoPattern(t *testing.T) {
	for _, p := range noPatterns() {
		for _, s := range []string{"", "a", p, p[:len(p)-1], `\`, "%", strings.Repeat("b", 20)} {
			if got, e := Match(p, s); e != api.ErrLike || got {
				t.Errorf("Match of %q and %q is %t and error %d", p, s, got, e)
			}
		}
	}
}

func TestMatchAllShort(t *testing.T) {
	strs := texts([]string{"a", "b", "%", `\`}, 4)
	for _, p := range texts([]string{"a", "b", "%", "_", `\`}, 4) {
		for _, s := range strs {
			mustMatchAsSplit(t, p, s)
		}
	}
}

// Two letters and many % make the matches hard to tell from what almost matches.
func TestMatchSome(t *testing.T) {
	chance := rand.New(rand.NewSource(3))
	for range 100000 {
		p := someText(chance, []string{"a", "b", "ab", "_", "%", "%"}, 9)
		mustMatchAsSplit(t, p, someText(chance, []string{"a", "b"}, 12))
	}
	for range 100000 {
		p := someText(chance, append(oddLetters(), "%", "%", "_", `\`), 6)
		mustMatchAsSplit(t, p, someText(chance, oddLetters(), 5))
	}
}

// Patterns with many % are told without trying all ways to split.
func TestMatchManyTimesMany(t *testing.T) {
	s := strings.Repeat("a", 2000)
	mustMatch(t, strings.Repeat("%a", 300), s, true)
	mustMatch(t, strings.Repeat("%a", 300)+"b", s, false)
	mustMatch(t, strings.Repeat("a%", 300)+"b", s, false)
	mustMatch(t, strings.Repeat("%", 300)+"b"+strings.Repeat("%", 300), s, false)
	mustMatch(t, strings.Repeat("_%", 2000), s, true)
	mustMatch(t, strings.Repeat("_%", 2001), s, false)
}
