package like

import (
	"math/rand"
	"slices"
	"strings"
	"testing"
	"unicode/utf8"

	"warp/api"
)

// P3.4 and P3.5: what follows from the other promises, for all strings.

func TestQuotedMatchesItselfAlone(t *testing.T) {
	all := texts([]string{"a", "%", "_", `\`, "\xc3", "\xa9", "\ufffd"}, 3)
	for _, s := range all {
		p := Quote(s)
		for _, other := range all {
			mustMatch(t, p, other, other == s)
		}
		mustFix(t, p, s, true)
	}
}

func TestAnyQuotedMatchesItselfAlone(t *testing.T) {
	chance := rand.New(rand.NewSource(6))
	for range 20000 {
		s := someText(chance, oddLetters(), 10)
		p := Quote(s)
		mustMatch(t, p, s, true)
		mustFix(t, p, s, true)
		other := someText(chance, oddLetters(), 10)
		mustMatch(t, p, other, other == s)
		mustMatch(t, p, s+"a", false)
		if s != "" {
			mustMatch(t, p, s[1:], false)
			mustMatch(t, p, s[:len(s)-1], false)
		}
	}
}

// mustBeginFixed tells unless s, if p matches it, begins with the literal prefix of p, and is that if p has nothing else.
func mustBeginFixed(t *testing.T, p, s string) {
	t.Helper()
	prefix, whole, e := Fixed(p)
	if e != api.OK {
		return
	}
	matched, _ := Match(p, s)
	if matched && !strings.HasPrefix(s, prefix) {
		t.Errorf("%q matches %q, but the prefix is %q", p, s, prefix)
	}
	if matched && whole && s != prefix {
		t.Errorf("%q matches %q, but it is to match %q alone", p, s, prefix)
	}
	if whole && utf8.ValidString(p) {
		mustMatch(t, p, prefix, true)
	}
}

func TestMatchedBeginsFixed(t *testing.T) {
	strs := texts([]string{"a", "%", "_", `\`}, 3)
	for _, p := range texts([]string{"a", "%", "_", `\`}, 5) {
		for _, s := range strs {
			mustBeginFixed(t, p, s)
		}
	}
	chance := rand.New(rand.NewSource(7))
	for range 50000 {
		s := someText(chance, oddLetters(), 6)
		mustBeginFixed(t, someText(chance, oddLetters(), 6), s)
		mustBeginFixed(t, loosened(chance, s), s)
	}
}

// loosened is a pattern that is mostly one that matches s: s quoted, with some characters replaced.
func loosened(chance *rand.Rand, s string) string {
	var b strings.Builder
	for _, c := range decoded(s) {
		switch chance.Intn(5) {
		case 0:
			b.WriteString("%")
		case 1:
			b.WriteString("_")
		case 2:
			b.WriteString(`\` + c)
		default:
			b.WriteString(Quote(c))
		}
		if chance.Intn(6) == 0 {
			b.WriteString("%")
		}
	}
	return b.String()
}

// together tells whether the two, one behind the other, have the characters that they have apart.
func together(p, q string) bool {
	return slices.Equal(decoded(p+q), append(decoded(p), decoded(q)...))
}

// mustFollow tells unless p and q match s and t together if they do so apart. It tells whether they do.
func mustFollow(t *testing.T, p, s, q, u string) bool {
	t.Helper()
	one, e := Match(p, s)
	two, f := Match(q, u)
	if e != api.OK || f != api.OK || !one || !two || !together(p, q) || !together(s, u) {
		return false
	}
	mustMatch(t, p+q, s+u, true)
	return true
}

func TestMatchedFollowEachOther(t *testing.T) {
	chance := rand.New(rand.NewSource(8))
	many := 0
	for range 50000 {
		s, u := someText(chance, oddLetters(), 6), someText(chance, oddLetters(), 6)
		if mustFollow(t, loosened(chance, s), s, loosened(chance, u), u) {
			many++
		}
	}
	if many < 25000 {
		t.Errorf("only %d pairs matched", many)
	}
	mustFollow(t, "", "", "", "")
	mustFollow(t, "%", "", "%", "")
	mustFollow(t, "a%", "ab", "%b", "ab")
	mustFollow(t, `\\`, `\`, "%", "%")
}

// Where the halves of a character come together, there is one character and no longer two.
func TestMatchedHalvesAreAnotherCharacter(t *testing.T) {
	mustMatch(t, "_", "\xc3", true)
	mustMatch(t, "_", "\xa9", true)
	mustMatch(t, "__", "\xc3\xa9", false)
	mustMatch(t, "\xc3%", "\xc3", true)
	mustMatch(t, "\xc3%\xa9", "\xc3\xa9", false)
}
