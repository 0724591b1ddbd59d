package dict

import (
	"bytes"
	"math/rand"
	"slices"
	"strings"
	"testing"

	"warp/api"
	"warp/octets"
)

// What the tests of this package share.

// right is what Right must answer for words.
func right(words []string) bool {
	for i, word := range words {
		if len(word) > api.MaxText || i > 0 && bytes.Compare([]byte(words[i-1]), []byte(word)) >= 0 {
			return false
		}
	}
	return len(words) <= api.MaxWords
}

// of is what Of must answer for l.
func of(l []string) ([]string, []int, api.Errno) {
	places := map[string]int{}
	var words []string
	for _, s := range l {
		if _, ok := places[s]; !ok {
			places[s] = 0
			words = append(words, s)
		}
		if len(s) > api.MaxText {
			return nil, nil, api.ErrLong
		}
	}
	if len(l) > api.MaxRows || len(words) > api.MaxWords {
		return nil, nil, api.ErrLong
	}
	slices.SortFunc(words, func(s, t string) int { return bytes.Compare([]byte(s), []byte(t)) })
	for i, word := range words {
		places[word] = i
	}
	var list []int
	for _, s := range l {
		list = append(list, places[s])
	}
	return words, list, api.OK
}

// count is how many of words, if they are a dictionary, are so as told.
func count(words []string, so func(word string) bool) int {
	n := 0
	if !right(words) {
		return n
	}
	for _, word := range words {
		if so(word) {
			n++
		}
	}
	return n
}

// from is what From must answer for words and s.
func from(words []string, s string) int {
	return count(words, func(word string) bool { return word < s })
}

// behind is what Behind must answer for words and s.
func behind(words []string, s string) int {
	return count(words, func(word string) bool { return word < s || strings.HasPrefix(word, s) })
}

// part is what bytes tell of a word: how much it has with the word ahead, and the rest.
type part struct {
	n    uint64
	rest string
}

// encoded is bytes in the form of those that Put answers, for any parts, of which there are so many as told.
func encoded(many uint64, parts ...part) []byte {
	b := octets.Num(nil, many)
	for _, p := range parts {
		b = append(b, octets.Text(octets.Num(nil, p.n), p.rest)...)
	}
	return b
}

// parts is how the parts of words are to be told.
func parts(words []string) []part {
	var list []part
	for i, word := range words {
		n := 0
		for i > 0 && n < len(word) && strings.HasPrefix(words[i-1], word[:n+1]) {
			n++
		}
		list = append(list, part{uint64(n), word[n:]})
	}
	return list
}

// put is what Put must answer for words, which are a dictionary.
func put(words []string) []byte {
	return encoded(uint64(len(words)), parts(words)...)
}

// taken is what Take must answer for b, and whether there is such a dictionary.
func taken(b []byte) ([]string, []byte, bool) {
	r := octets.New(b)
	var words []string
	many := r.Num()
	for i := uint64(0); i < many; i++ {
		n, rest := r.Num(), r.Text()
		last := ""
		if i > 0 {
			last = words[i-1]
		}
		if r.Bad() || n > uint64(len(last)) || n < uint64(len(last)) && rest != "" && last[n] == rest[0] {
			return nil, nil, false
		}
		words = append(words, last[:n]+rest)
		if !right(words) {
			return nil, nil, false
		}
	}
	return words, b[len(b)-r.Left():], !r.Bad()
}

// numbered is so many words that are a dictionary.
func numbered(many int) []string {
	var words []string
	for i := range many {
		words = append(words, string([]byte{'w', byte(i >> 8), byte(i)}))
	}
	return words
}

// someWord is a word by chance, of few letters so that prefixes are common.
func someWord(chance *rand.Rand) string {
	letters := []string{"a", "b", "c", "\x00", "\xff", "é"}
	var s strings.Builder
	for range chance.Intn(6) {
		s.WriteString(letters[chance.Intn(1+chance.Intn(len(letters)))])
	}
	return s.String()
}

// someWords is a list of so many words by chance, in no order.
func someWords(chance *rand.Rand, many int) []string {
	var l []string
	for range many {
		l = append(l, someWord(chance))
	}
	return l
}

// someDict is a dictionary by chance.
func someDict(chance *rand.Rand) []string {
	words, _, _ := of(someWords(chance, chance.Intn(40)))
	return words
}

// long is a text of so many bytes.
func long(many int) string {
	return strings.Repeat("x", many)
}

// valid is dictionaries, among them those at the edges.
func valid() [][]string {
	var tall []string
	for i := range api.MaxWords {
		tall = append(tall, long(api.MaxText-2)+string([]byte{byte(i / 16), byte(i % 16)}))
	}
	var steps []string
	for i := range api.MaxWords {
		steps = append(steps, long(5*i))
	}
	return [][]string{
		nil,
		{},
		{""},
		{"a"},
		{"", "a"},
		{"", "\x00"},
		{"a", "b", "c"},
		{"a", "ab", "b"},
		{"ab", "abc"},
		{"A", "a", "a ", "a!", "aa", "b"},
		{"\x00", "\x00\x00", "\x00\x01", "\x01", "\x7f", "\x80", "\xff", "\xff\xff"},
		{"Z", "z", "\xc3", "é"},
		{long(247), long(248), long(255), long(256)},
		{long(api.MaxText - 1), long(api.MaxText)},
		{long(api.MaxText - 1), long(api.MaxText-1) + "y"},
		{"", long(api.MaxText), "y"},
		numbered(api.MaxWords),
		numbered(api.MaxWords - 1),
		tall,
		steps,
	}
}

// wrong is lists of strings that are no dictionaries.
func wrong() [][]string {
	return [][]string{
		{"", ""},
		{"a", "a"},
		{"b", "a"},
		{"ab", "a"},
		{"a", ""},
		{"a", "c", "b"},
		{"b", "a", "c"},
		{"a", "b", "b"},
		{"a", "a", "b"},
		{"a", "b", "a"},
		{"a", "A"},
		{"\x80", "\x7f"},
		{"é", "\xc3"},
		{"\xff", "\x00"},
		{"\xff", "z"},
		{"a", "\x00"},
		{long(api.MaxText + 1)},
		{"a", long(api.MaxText + 1)},
		{long(api.MaxText + 1), "y"},
		{"", long(api.MaxText + 1), "y", "z"},
		{long(1 << 16)},
		{long(api.MaxText), long(api.MaxText + 1)},
		{long(api.MaxText), long(api.MaxText)},
		{long(api.MaxText), long(api.MaxText - 1)},
		numbered(api.MaxWords + 1),
		numbered(257),
		numbered(456),
		numbered(5000),
		append(numbered(api.MaxWords), "a"),
		append([]string{"x"}, numbered(api.MaxWords-1)...),
		append(numbered(api.MaxWords-1), "w"),
		slices.Repeat([]string{""}, api.MaxWords),
		slices.Repeat([]string{"a"}, 1<<16),
	}
}

// texts is what words are searched for: the words themselves, and what is near to them.
func texts(words []string) []string {
	l := []string{"", "a", "aa", "b", "x", "y", "\x00", "\xff", "\xff\xff\xff", "é", long(api.MaxText), long(api.MaxText + 1), long(1 << 12)}
	for _, word := range words {
		l = append(l, word, word+"\x00", word+"a", word+"\xff", word[:len(word)/2])
		if last := len(word) - 1; last >= 0 {
			l = append(l, word[:last], word[:last]+string([]byte{word[last] - 1}), word[:last]+string([]byte{word[last] + 1}), word[:last]+"\xff")
		}
	}
	return l
}

// mustOf tells unless Of answers those for l.
func mustOf(t *testing.T, l, words []string, places []int, e api.Errno) {
	t.Helper()
	gotWords, gotPlaces, gotE := Of(l)
	if gotE != e || !slices.Equal(gotWords, words) || !slices.Equal(gotPlaces, places) {
		t.Fatalf("Of(%.100q) is %.100q, %.100v and error %d, not %.100q, %.100v and error %d", l, gotWords, gotPlaces, gotE, words, places, e)
	}
}

// mustSearch tells unless Find, From and Behind answer for words and s what they must.
func mustSearch(t *testing.T, words []string, s string) {
	t.Helper()
	place := slices.Index(words, s)
	ok := place >= 0 && right(words)
	if !ok {
		place = 0
	}
	if got, gotOk := Find(words, s); got != place || gotOk != ok {
		t.Fatalf("Find(%.100q, %.100q) is %d, %t", words, s, got, gotOk)
	}
	if got := From(words, s); got != from(words, s) {
		t.Fatalf("From(%.100q, %.100q) is %d, not %d", words, s, got, from(words, s))
	}
	if got := Behind(words, s); got != behind(words, s) {
		t.Fatalf("Behind(%.100q, %.100q) is %d, not %d", words, s, got, behind(words, s))
	}
}

// mustPut tells unless Put answers those bytes for words.
func mustPut(t *testing.T, words []string, want []byte) {
	t.Helper()
	if b, e := Put(words); e != api.OK || !bytes.Equal(b, want) {
		t.Fatalf("Put(%.100q) is %.100d and error %d, not %.100d", words, b, e, want)
	}
}

// mustTake tells unless Take answers those words and those bytes for b.
func mustTake(t *testing.T, b []byte, words []string, rest []byte) {
	t.Helper()
	gotWords, gotRest, e := Take(b)
	if e != api.OK || !slices.Equal(gotWords, words) || !bytes.Equal(gotRest, rest) {
		t.Fatalf("Take(%.100d) is %.100q, %.100d and error %d, not %.100q and %.100d", b, gotWords, gotRest, e, words, rest)
	}
}

// mustNotTake tells unless Take answers for b that it begins with no dictionary.
func mustNotTake(t *testing.T, b []byte) {
	t.Helper()
	if words, rest, e := Take(b); e != api.ErrCorrupt || len(words) != 0 || len(rest) != 0 {
		t.Fatalf("Take(%.100d) is %.100q, %.100d and error %d", b, words, rest, e)
	}
}

// mustTurn tells unless Turn answers those for its two dictionaries.
func mustTurn(t *testing.T, from, to []string, want []int, wantE api.Errno) {
	t.Helper()
	if got, e := Turn(from, to); e != wantE || !slices.Equal(got, want) {
		t.Fatalf("Turn(%.100q, %.100q) is %.100v and error %d, not %.100v and error %d", from, to, got, e, want, wantE)
	}
}
