package ask

import (
	"math"
	"math/rand"
	"slices"
	"strings"
	"testing"

	"warp/api"
	"warp/like"
	"warp/zone"
)

// P14.3: what may come of a condition for rows of which only zones are known.

// letters is the possible truth values as the tests tell them: N, U and Y for those that may occur.
func letters(may [3]bool) string {
	s := ""
	for i, c := range []string{"N", "U", "Y"} {
		if may[i] {
			s += c
		}
	}
	return s
}

// set is the possible truth values that letters tells.
func set(s string) [3]bool {
	return [3]bool{strings.Contains(s, "N"), strings.Contains(s, "U"), strings.Contains(s, "Y")}
}

func TestMayOfOneNode(t *testing.T) {
	z := []api.Zone{
		zone.Of([]api.Value{num(3), num(5), null}),
		zone.Of([]api.Value{num(3), num(3), num(3)}),
		zone.Of([]api.Value{null, null, null}),
		zone.Of([]api.Value{text("b"), text("d"), text("c")}),
	}
	for _, c := range []struct {
		l    []api.Node
		want string
	}{
		{always(), "Y"},
		{equal(0, num(4)), "NUY"}, {equal(0, num(6)), "NU"}, {less(0, num(3)), "NU"}, {less(0, num(4)), "NUY"}, {less(0, num(6)), "UY"}, {isNull(0), "NY"},
		{equal(1, num(3)), "Y"}, {equal(1, num(4)), "N"}, {less(1, num(3)), "N"}, {less(1, num(4)), "Y"}, {isNull(1), "N"},
		{equal(2, num(3)), "U"}, {less(2, num(3)), "U"}, {isNull(2), "Y"}, {likes(2, "%"), "U"}, {likes(2, "a"), "U"},
		{equal(3, text("c")), "NY"}, {equal(3, text("a")), "N"}, {less(3, text("b")), "N"}, {less(3, text("e")), "Y"}, {isNull(3), "N"},
		{likes(3, "c%"), "NY"}, {likes(3, "a%"), "N"}, {likes(3, "%"), "Y"},
	} {
		mustMay(t, c.l, z, set(c.want))
	}
}

// likeZone is the zone of texts from least to most, and of Nulls.
func likeZone(least, most string, nulls int) api.Zone {
	return zone.Of(append(make([]api.Value, nulls), text(least), text(most)))
}

func TestMayOfLike(t *testing.T) {
	for _, c := range []struct {
		least, most, pattern, want string
	}{
		{"b", "d", "%", "Y"},
		{"b", "b", "%", "Y"},
		{"", "", "%", "Y"},
		{"", "\xff", "%", "Y"},
		{"b", "d", "%%", "NY"}, // the pattern % alone rules No out
		{"b", "d", "", "NY"},   // all texts begin with nothing
		{"b", "d", "_", "NY"},
		{"b", "d", "%c", "NY"},
		{"b", "d", "_a%", "NY"},
		{"b", "d", "a", "N"},
		{"b", "d", "a%", "N"},
		{"b", "d", "a_", "N"},
		{"b", "d", "az%", "N"},
		{"b", "d", "b", "NY"},
		{"b", "d", "b%", "NY"},
		{"b", "d", "bz%", "NY"},
		{"b", "d", "c%", "NY"},
		{"b", "d", "d", "NY"},
		{"b", "d", "d%", "NY"},
		{"b", "d", "da", "N"},
		{"b", "d", "da%", "N"},
		{"b", "d", "e%", "N"},
		{"ba", "d", "b%", "NY"}, // Least is greater than the prefix, and begins with it
		{"ba", "d", "b", "NY"},
		{"ba", "d", "ba%", "NY"},
		{"ba", "d", "a%", "N"},
		{"bb", "d", "ba%", "N"},
		{"bb", "d", "bab%", "N"},
		{"bab", "d", "bb%", "NY"},
		{"b", "b", "b", "NY"},
		{"b", "b", "b%", "NY"},
		{"b", "b", "c", "N"},
		{"b\x00", "b\x00", "b", "NY"}, // it can't match, but that is not looked at
		{"", "", "a%", "N"},
		{"", "", "", "NY"},
		{"", "z", "a%", "NY"},
		{"a%", "a%", "a\\%", "NY"}, // the prefix is what the elements match, not the pattern's bytes
		{"a%", "a%", "a\\_%", "N"},
		{"aa", "ab", "\\a%", "NY"},
		{"\\", "\\", "\\\\%", "NY"},
		{"\xff", "\xff\xff", "\xff%", "NY"},
		{"\xfe", "\xfe\xff", "\xff%", "N"},
		{"\xfe", "\xfe\xff", "\xfd%", "N"},
		{"\u00e4", "\u00e4", "\u00e4%", "NY"},
		{"\u00e4", "\u00e5", "\u00e3%", "N"},
	} {
		for _, nulls := range []int{0, 1, 4000} {
			z := []api.Zone{{}, likeZone(c.least, c.most, nulls)}
			want := set(c.want)
			want[api.Unknown] = nulls > 0
			mustMay(t, likes(1, c.pattern), z, want)
		}
	}
}

// Where there is no value but Null, nothing is known of it; without rows, nothing is possible.
func TestMayOfLikeWithoutTexts(t *testing.T) {
	for _, p := range patterns() {
		mustMay(t, likes(0, p), []api.Zone{{}}, set(""))
		mustMay(t, likes(0, p), []api.Zone{{Nulls: 1, Many: 1}}, set("U"))
		mustMay(t, likes(0, p), []api.Zone{{Nulls: 4096, Many: 4096}}, set("U"))
	}
	for _, l := range [][]api.Node{equal(0, num(1)), less(0, num(1)), isNull(0), not(isNull(0)), both(always(), isNull(0)), either(always(), isNull(0)), both(isNull(0))} {
		mustMay(t, l, []api.Zone{{}}, set(""))
	}
	mustMay(t, always(), []api.Zone{{}}, set("Y"))
	mustMay(t, not(always()), nil, set("N"))
}

// sets is zones of three rows of which the possible truth values of Equal 3, at that column, are all those that may be.
func sets() ([]api.Zone, [][3]bool) {
	lists := [][]api.Value{
		{null, null, null}, {num(4), num(4), num(4)}, {num(3), num(3), num(3)},
		{num(4), null, null}, {num(3), null, null}, {num(2), num(4), num(4)}, {num(2), num(4), null},
	}
	var z []api.Zone
	var may [][3]bool
	for i, s := range []string{"U", "N", "Y", "NU", "UY", "NY", "NUY"} {
		z = append(z, zone.Of(lists[i]))
		may = append(may, set(s))
	}
	return z, may
}

// combined is what And or Or may come to, by all combinations of one possible truth value of each operand.
func combined(op uint8, operands [][3]bool) [3]bool {
	var may [3]bool
	var choose func(chosen []uint8)
	choose = func(chosen []uint8) {
		if len(chosen) == len(operands) {
			if op == api.And {
				may[slices.Min(chosen)] = true
			} else {
				may[slices.Max(chosen)] = true
			}
			return
		}
		for truth, ok := range operands[len(chosen)] {
			if ok {
				choose(append(slices.Clone(chosen), uint8(truth)))
			}
		}
	}
	choose(nil)
	return may
}

// And and Or of up to three operands, and Not, for all sets of truth values that are possible for them.
func TestMayOfOperands(t *testing.T) {
	z, may := sets()
	lists := [][]int{nil}
	for i := 0; i < len(lists); i++ {
		if len(lists[i]) < 3 {
			for col := range z {
				lists = append(lists, append(slices.Clone(lists[i]), col))
			}
		}
		if len(lists[i]) == 0 {
			continue
		}
		var operands [][]api.Node
		var sets [][3]bool
		for _, col := range lists[i] {
			operands = append(operands, equal(col, num(3)))
			sets = append(sets, may[col])
		}
		and, or := combined(api.And, sets), combined(api.Or, sets)
		mustMay(t, both(operands...), z, and)
		mustMay(t, either(operands...), z, or)
		mustMay(t, not(both(operands...)), z, [3]bool{and[2], and[1], and[0]})
		mustMay(t, not(either(operands...)), z, [3]bool{or[2], or[1], or[0]})
		mustMay(t, both(append(operands, always())...), z, and)
		mustMay(t, either(append(operands, not(always()))...), z, or)
	}
}

func TestMayOfTwo(t *testing.T) {
	z, _ := sets()
	for _, c := range []struct {
		a, b    int
		and, or string
	}{
		{0, 0, "U", "U"}, {0, 1, "N", "U"}, {0, 2, "U", "Y"}, {1, 2, "N", "Y"}, {0, 5, "NU", "UY"}, {3, 4, "NU", "UY"}, {5, 5, "NY", "NY"}, {6, 1, "N", "NUY"}, {6, 2, "NUY", "Y"},
	} {
		a, b := equal(c.a, num(3)), equal(c.b, num(3))
		mustMay(t, both(a, b), z, set(c.and))
		mustMay(t, both(b, a), z, set(c.and))
		mustMay(t, either(a, b), z, set(c.or))
		mustMay(t, either(b, a), z, set(c.or))
	}
	// The operands are taken one by one: that a row can't be both is not looked at.
	x := equal(5, num(3))
	mustMay(t, both(x, not(x)), z, set("NY"))
}

// possible is what May must answer for a tree, in the words of P14.3.
func possible(x tree, z []api.Zone) [3]bool {
	var l [][3]bool
	for _, kid := range x.kids {
		l = append(l, possible(kid, z))
	}
	n := x.node
	switch n.Op {
	case api.True:
		return set("Y")
	case api.Not:
		return [3]bool{l[0][2], l[0][1], l[0][0]}
	case api.And, api.Or:
		return combined(n.Op, l)
	case api.Equal:
		return zone.Equal(z[n.Col], n.V)
	case api.Less:
		return zone.Less(z[n.Col], n.V)
	case api.IsNull:
		return zone.Null(z[n.Col])
	}
	least, most := z[n.Col].Least, z[n.Col].Most
	fixed, _, _ := like.Fixed(n.V.S)
	there := z[n.Col].Many > z[n.Col].Nulls
	tooLittle := before(most, text(fixed))
	tooGreat := before(text(fixed), least) && !strings.HasPrefix(least.S, fixed)
	return [3]bool{there && n.V.S != "%", z[n.Col].Nulls > 0, there && !tooLittle && !tooGreat}
}

// zonesOf is the zone of each column of rows.
func zonesOf(rows []api.Row, many int) []api.Zone {
	var z []api.Zone
	for col := range many {
		var l []api.Value
		for _, r := range rows {
			l = append(l, r[col])
		}
		z = append(z, zone.Of(l))
	}
	return z
}

// Conditions and zones by chance, held against trees.
func TestMayOfSome(t *testing.T) {
	chance := rand.New(rand.NewSource(4))
	columns := []uint8{api.Text, api.Int, api.Text, api.Bool, api.Text}
	leaf := func() api.Node { return someLeaf(chance, columns) }
	seen := map[string]int{}
	for range 5000 {
		x := someTree(chance, 1+chance.Intn(12), leaf)
		l := x.flat()
		if len(l) > 40 {
			continue
		}
		for range 4 {
			var rows []api.Row
			for range chance.Intn(4) {
				rows = append(rows, someRow(chance, columns))
			}
			z := zonesOf(rows, len(columns))
			want := possible(x, z)
			seen[letters(want)]++
			mustMay(t, l, z, want)
		}
	}
	for _, s := range []string{"", "N", "U", "Y", "NU", "UY", "NY", "NUY"} {
		if seen[s] < 100 {
			t.Errorf("%q was possible %d times", s, seen[s])
		}
	}
}

// All is possible for what is no condition: without nodes, with too many, of operations that there are not, with operands missing or left.
func TestMayOfWrongConditions(t *testing.T) {
	z, _ := sets()
	yes := equal(2, num(3))
	for _, l := range [][]api.Node{
		nil,
		{},
		slices.Concat(yes, yes),
		slices.Concat(always(), always()),
		{{Op: api.Not}},
		{{Op: api.Not}, {Op: api.Not}},
		{{Op: api.And, Kids: 1}},
		{{Op: api.And, Kids: 2}, yes[0]},
		{{Op: api.Or, Kids: 2}, yes[0], {Op: api.Not}},
		{{Op: api.And, Kids: 1}, yes[0], yes[0]},
		{{Op: api.And, Kids: -1}, yes[0]},
		{{Op: api.Or, Kids: -1}},
		{{Op: api.And, Kids: math.MinInt}, yes[0]},
		{{Op: api.And, Kids: math.MaxInt}, yes[0]},
		{{Op: api.And, Kids: 41}, yes[0]},
		{{Op: api.And, Kids: math.MaxInt}, {Op: api.And, Kids: math.MaxInt}, {Op: api.And, Kids: 4}, yes[0]},
		{{Op: api.And, Kids: math.MaxInt}, {Op: api.And, Kids: math.MaxInt}, {Op: api.And, Kids: 4}},
		{{Op: api.Or, Kids: math.MaxInt}, {Op: api.Or, Kids: math.MaxInt}, {Op: api.Or, Kids: 3}, yes[0]},
	} {
		mustMay(t, l, z, all)
	}
	for op := range 256 {
		if o := uint8(op); !slices.Contains(ops, o) {
			n := []api.Node{{Op: o}}
			mustMay(t, n, z, all)
			mustMay(t, not(n), z, all)
			mustMay(t, both(yes, n), z, all)
			mustMay(t, either(yes, n), z, all) // although Yes comes of it, whatever n is
			mustMay(t, append(n, yes...), z, all)
			mustMay(t, append(always(), n...), z, all)
		}
	}
	for n := 35; n < 45; n++ {
		want := [][3]bool{set("Y"), set("N")}[(n-1)%2]
		same := set("Y")
		if n > 40 {
			want, same = all, all
		}
		mustMay(t, nots(n-1, yes), z, want)
		mustMay(t, both(slices.Repeat([][]api.Node{yes}, n-1)...), z, same)
		mustMay(t, either(slices.Repeat([][]api.Node{yes}, n-1)...), z, same)
	}
	mustMay(t, nots(1<<20, yes), z, all)
}

// All is possible if a column has no zone, even where the others decide.
func TestMayWithoutZone(t *testing.T) {
	z, _ := sets()
	yes, no := equal(2, num(3)), equal(1, num(3))
	for many := range len(z) + 1 {
		for _, col := range []int{math.MinInt, -1, 0, 1, 2, 6, 7, 8, math.MaxInt} {
			if 0 <= col && col < many {
				continue
			}
			for _, l := range [][]api.Node{equal(col, num(3)), less(col, num(3)), likes(col, "%"), isNull(col)} {
				mustMay(t, l, z[:many], all)
				mustMay(t, not(l), z[:many], all)
				mustMay(t, both(no, l), z[:many], all)
				mustMay(t, both(l, no), z[:many], all)
				mustMay(t, either(yes, l), z[:many], all)
				mustMay(t, either(l, yes), z[:many], all)
				mustMay(t, either(always(), both(not(always()), l)), z[:many], all)
			}
		}
	}
	mustMay(t, isNull(0), nil, all)
	mustMay(t, isNull(0), []api.Zone{}, all)
	mustMay(t, both(always(), not(always())), nil, set("N"))
}

// Whatever the nodes and the zones, something is answered.
func TestMayOfOddNodes(t *testing.T) {
	numbers := []int{math.MinInt, -1, 0, 1, 2, 41, math.MaxInt}
	zones := []api.Zone{{}, {Nulls: -1, Many: math.MaxInt}, {Nulls: math.MaxInt, Many: math.MinInt}}
	for _, v := range allValues() {
		zones = append(zones, api.Zone{Least: v, Most: v, Many: 2}, api.Zone{Least: v, Nulls: 1, Many: 2})
	}
	for op := range 10 {
		for _, v := range append(allValues(), text("\\"), text("a\\")) {
			for _, col := range numbers {
				for _, kids := range numbers {
					n := api.Node{Op: uint8(op), Col: col, Kids: kids, V: v}
					for _, z := range zones {
						May([]api.Node{n}, []api.Zone{z})
						May([]api.Node{n, {Op: api.IsNull}}, []api.Zone{z, z})
					}
				}
			}
		}
	}
}
