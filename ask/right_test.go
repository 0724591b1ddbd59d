package ask

import (
	"math"
	"math/rand"
	"slices"
	"strings"
	"testing"

	"warp/api"
	"warp/like"
)

// P14.1: which conditions are valid.

func TestRight(t *testing.T) {
	for _, l := range [][]api.Node{
		always(),
		equal(0, truthOf(0)), equal(0, truthOf(1)), less(0, truthOf(1)), isNull(0),
		equal(1, num(math.MinInt)), less(1, num(math.MaxInt)), isNull(1),
		equal(2, text("")), less(2, text("a%\\")), isNull(2),
		equal(2, text(longest())), less(2, text(longest())), likes(2, longest()),
		likes(2, ""), likes(2, "%"), likes(2, "a\\%_"), likes(2, "\\\\"), likes(2, "\xff"),
		not(always()), not(not(isNull(1))),
		both(always()), either(always()),
		both(less(1, num(5)), isNull(2)),
		either(both(isNull(0), not(isNull(1))), likes(2, "a%"), always()),
		both(either(always(), both(always())), not(either(isNull(0)))),
	} {
		mustRight(t, kinds, l, true)
	}
}

// Of a valid condition, a node too many or too few makes one that is not valid.
func TestRightIsOneNodeWithItsOperands(t *testing.T) {
	for _, l := range [][]api.Node{
		nil,
		{},
		slices.Concat(always(), always()),
		slices.Concat(isNull(0), not(always())),
		{{Op: api.Not}},
		{{Op: api.And, Kids: 1}},
		{{Op: api.Or, Kids: 2}, {Op: api.True}},
		{{Op: api.And, Kids: 2}, {Op: api.Not}, {Op: api.True}},
		{{Op: api.And, Kids: 1}, {Op: api.True}, {Op: api.True}},
		{{Op: api.True}, {Op: api.Not}},
		{{Op: api.And, Kids: 40}, {Op: api.True}},
	} {
		mustRight(t, kinds, l, false)
	}
	l := either(both(isNull(0), not(isNull(1))), likes(2, "a%"), always())
	for i := range l {
		mustRight(t, kinds, l[:i], false)
		mustRight(t, kinds, l[i:], i == 0 || i == len(l)-1)
	}
	mustRight(t, kinds, append(l, always()...), false)
	mustRight(t, kinds, slices.Concat(l, l), false)
}

// The shapes of all short lists of nodes.
func TestRightOfAllShapes(t *testing.T) {
	nodes := []api.Node{{Op: api.True}, {Op: api.Not}, {Op: api.IsNull}, {Op: api.And, Kids: 1}, {Op: api.And, Kids: 2}, {Op: api.Or, Kids: 3}, {Op: api.Or, Kids: 5}}
	lists := [][]api.Node{nil}
	valid := 0
	for i := 0; i < len(lists); i++ {
		_, ok := treeOf(lists[i])
		mustRight(t, kinds, lists[i], ok)
		if ok {
			valid++
		}
		if len(lists[i]) < 6 {
			for _, n := range nodes {
				lists = append(lists, append(slices.Clone(lists[i]), n))
			}
		}
	}
	if valid < 100 {
		t.Errorf("%d lists were valid", valid)
	}
}

// As many nodes as there may be, and one more.
func TestRightOfManyNodes(t *testing.T) {
	many := func(n int) [][]api.Node { return slices.Repeat([][]api.Node{always()}, n) }
	for n := 30; n < 50; n++ {
		mustRight(t, kinds, nots(n-1, always()), n <= 40)
		mustRight(t, kinds, both(many(n-1)...), n <= 40)
		mustRight(t, kinds, either(many(n-1)...), n <= 40)
		mustRight(t, kinds, either(both(many(10)...), both(many(n-13)...)), n <= 40)
	}
	mustRight(t, kinds, nots(4000, always()), false)
}

// Kids is from 1 to 40 for And and Or, whatever follows, and 0 for all others. Kids whose sums no int can hold are of no help.
func TestRightOfKids(t *testing.T) {
	wrong := []int{math.MinInt, math.MinInt + 1, -41, -2, -1, 0, 41, 42, math.MaxInt - 1, math.MaxInt}
	for _, op := range []uint8{api.And, api.Or} {
		for _, kids := range wrong {
			for many := range 45 {
				l := append([]api.Node{{Op: op, Kids: kids}}, slices.Repeat(always(), many)...)
				mustRight(t, kinds, l, false)
				for _, other := range append(wrong, 1, 2, 3, 4, 5) {
					mustRight(t, kinds, append([]api.Node{{Op: api.And, Kids: other}}, l...), false)
				}
			}
		}
		for kids := 1; kids <= 39; kids++ {
			for many := range 45 {
				mustRight(t, kinds, append([]api.Node{{Op: op, Kids: kids}}, slices.Repeat(always(), many)...), many == kids)
			}
		}
	}
	round := []api.Node{{Op: api.And, Kids: math.MaxInt}, {Op: api.And, Kids: math.MaxInt}, {Op: api.And, Kids: 4}, {Op: api.True}, {Op: api.True}, {Op: api.True}}
	for i := range round {
		mustRight(t, kinds, round[:i], false)
	}
	for _, l := range [][]api.Node{always(), isNull(1), equal(1, num(3)), less(1, num(3)), likes(2, "a"), not(always())} {
		for _, kids := range append(wrong, 1, 2, 40) {
			changed := slices.Clone(l)
			changed[0].Kids = kids
			mustRight(t, kinds, changed, kids == 0)
			mustRight(t, kinds, append(changed, always()...), false)
		}
	}
}

// wellFormed tells whether a node has the fields that it may have, in the words of P14.1.
func wellFormed(columns []uint8, n api.Node) bool {
	if n.Op < 1 || n.Op > 8 {
		return false
	}
	joins := n.Op == api.And || n.Op == api.Or
	if joins && (n.Kids < 1 || n.Kids > 40) || !joins && n.Kids != 0 {
		return false
	}
	asks := n.Op >= api.Equal
	if asks && (n.Col < 0 || n.Col >= len(columns)) || !asks && n.Col != 0 {
		return false
	}
	switch n.Op {
	case api.Equal, api.Less:
		return valid(n.V) && n.V.Kind == columns[n.Col]
	case api.Like:
		return valid(n.V) && n.V.Kind == 3 && columns[n.Col] == 3 && like.Check(n.V.S) == 0
	}
	return n.V == null
}

// All fields of a node, with as many operands as it asks for.
func TestRightOfFields(t *testing.T) {
	values := append(allValues(), text("\\"), text("a\\"), text("\\\\"), text("%"), text("_"))
	numbers := []int{math.MinInt, -1, 0, 1, 2, 3, 39, 40, 41, math.MaxInt}
	valid := 0
	for _, op := range append(ops, 0, 9, 10, 128, 255) {
		for _, col := range numbers {
			for _, kids := range numbers {
				for _, v := range values {
					n := api.Node{Op: op, Col: col, Kids: kids, V: v}
					l := []api.Node{n}
					if op == api.Not {
						l = append(l, api.Node{Op: api.True})
					}
					if (op == api.And || op == api.Or) && kids > 0 && kids < 41 {
						l = append(l, slices.Repeat(always(), kids)...)
					}
					ok := wellFormed(kinds, n) && len(l) <= 40
					mustRight(t, kinds, l, ok)
					mustRight(t, kinds, not(not(l)), ok && len(l) <= 38)
					if ok {
						valid++
					}
				}
			}
		}
	}
	if valid < 50 {
		t.Errorf("%d nodes were valid", valid)
	}
}

// Each node is looked at, wherever it stands.
func TestRightOfEachNode(t *testing.T) {
	chance := rand.New(rand.NewSource(1))
	columns := []uint8{api.Int, api.Text, api.Bool, api.Text}
	leaf := func() api.Node { return someLeaf(chance, columns) }
	for range 3000 {
		l := someTree(chance, 1+chance.Intn(25), leaf).flat()
		mustRight(t, columns, l, true)
		i := chance.Intn(len(l))
		for _, change := range []func(n *api.Node){
			func(n *api.Node) { n.Op = 0 },
			func(n *api.Node) { n.Op = 9 },
			func(n *api.Node) { n.Col = -1 },
			func(n *api.Node) { n.Col = 4 },
			func(n *api.Node) { n.Kids = -1 },
			func(n *api.Node) { n.Kids++ },
			func(n *api.Node) { n.V.N = 7; n.V.S += "b" },
			func(n *api.Node) { n.V = api.Value{Kind: 4} },
		} {
			changed := slices.Clone(l)
			change(&changed[i])
			mustRight(t, columns, changed, false)
		}
	}
}

// The columns of which a condition is right are those that there are, of their kinds.
func TestRightOfColumns(t *testing.T) {
	mustRight(t, nil, always(), true)
	mustRight(t, nil, both(always(), not(always())), true)
	for _, l := range [][]api.Node{isNull(0), equal(0, null), equal(0, num(0)), less(0, num(0)), likes(0, "a")} {
		mustRight(t, nil, l, false)
		mustRight(t, []uint8{}, l, false)
	}
	for col := range 3 {
		for _, kind := range kinds {
			v := few(kind)[0]
			ok := kinds[col] == kind
			mustRight(t, kinds, equal(col, v), ok)
			mustRight(t, kinds, less(col, v), ok)
			mustRight(t, kinds, both(isNull(0), equal(col, v)), ok)
			mustRight(t, kinds[:col], equal(col, v), false)
			mustRight(t, kinds[:col], isNull(col), false)
		}
		mustRight(t, kinds, equal(col, null), false)
		mustRight(t, kinds, less(col, null), false)
		mustRight(t, kinds, likes(col, "a%"), col == 2)
	}
	many := slices.Repeat([]uint8{api.Int}, 100)
	mustRight(t, many, equal(99, num(1)), true)
	mustRight(t, many, equal(100, num(1)), false)
}

// A column whose kind is that of no column may be asked whether it is Null; no value but one of its kind is held against it, and none is valid beyond Text.
func TestRightOfOtherKinds(t *testing.T) {
	for kind := 4; kind < 256; kind++ {
		k := uint8(kind)
		mustRight(t, []uint8{k}, isNull(0), true)
		mustRight(t, []uint8{k}, equal(0, api.Value{Kind: k}), false)
		mustRight(t, []uint8{k}, less(0, api.Value{Kind: k}), false)
		mustRight(t, []uint8{k}, equal(0, num(1)), false)
		mustRight(t, []uint8{k}, likes(0, "a"), false)
	}
	for _, v := range append(few(api.Int), few(api.Text)...) {
		mustRight(t, []uint8{api.Null}, equal(0, v), false)
		mustRight(t, []uint8{api.Null}, less(0, v), false)
	}
	mustRight(t, []uint8{api.Null}, likes(0, "a"), false)
}

// Like wants a pattern, in a text that is none too long.
func TestRightOfPatterns(t *testing.T) {
	for _, p := range []string{"\\", "a\\", "%\\", "\\\\\\", strings.Repeat("x", 1023) + "\\", longest() + "x", longest() + "%"} {
		mustRight(t, kinds, likes(2, p), false)
	}
	for _, p := range append(patterns(), "\\\\", "\\%", strings.Repeat("\\", 1024), strings.Repeat("%", 1024)) {
		mustRight(t, kinds, likes(2, p), true)
		mustRight(t, kinds, likes(1, p), false)
		mustRight(t, kinds, likes(0, p), false)
	}
	for _, v := range append(few(api.Int), null, truthOf(0), api.Value{Kind: api.Text, N: 1, S: "a"}) {
		for col := range 3 {
			mustRight(t, kinds, []api.Node{{Op: api.Like, Col: col, V: v}}, false)
		}
	}
}
