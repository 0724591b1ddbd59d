package ask

import (
	"fmt"
	"math/rand"
	"slices"
	"strings"
	"testing"

	"warp/api"
	"warp/like"
)

// What the tests of this package share.

var (
	kinds  = []uint8{api.Bool, api.Int, api.Text}
	ops    = []uint8{api.True, api.And, api.Or, api.Not, api.Equal, api.Less, api.Like, api.IsNull}
	truths = []uint8{api.No, api.Unknown, api.Yes}
	null   = api.Value{}
	all    = [3]bool{true, true, true}
)

// num, text and truthOf are values.
func num(n int) api.Value { return api.Value{Kind: api.Int, N: n} }

func text(s string) api.Value { return api.Value{Kind: api.Text, S: s} }

func truthOf(n int) api.Value { return api.Value{Kind: api.Bool, N: n} }

// longest is a text of as many bytes as a text may have.
func longest() string { return strings.Repeat("x", 1024) }

// always, equal, less, likes and isNull are conditions of one node.
func always() []api.Node { return []api.Node{{Op: api.True}} }

func equal(col int, v api.Value) []api.Node { return []api.Node{{Op: api.Equal, Col: col, V: v}} }

func less(col int, v api.Value) []api.Node { return []api.Node{{Op: api.Less, Col: col, V: v}} }

func likes(col int, p string) []api.Node { return []api.Node{{Op: api.Like, Col: col, V: text(p)}} }

func isNull(col int) []api.Node { return []api.Node{{Op: api.IsNull, Col: col}} }

// both, either and not are conditions made of others.
func both(l ...[]api.Node) []api.Node {
	return append([]api.Node{{Op: api.And, Kids: len(l)}}, slices.Concat(l...)...)
}

func either(l ...[]api.Node) []api.Node {
	return append([]api.Node{{Op: api.Or, Kids: len(l)}}, slices.Concat(l...)...)
}

func not(l []api.Node) []api.Node {
	return append([]api.Node{{Op: api.Not}}, l...)
}

// nots is l with so many Not in front of it.
func nots(many int, l []api.Node) []api.Node {
	return append(slices.Repeat([]api.Node{{Op: api.Not}}, many), l...)
}

// tree is a node with its operands, which the tests keep apart from their order in a list.
type tree struct {
	node api.Node
	kids []tree
}

// grown is the tree that l begins with, and what follows it; false, if l ends ahead of it, or an operation is none.
func grown(l []api.Node) (tree, []api.Node, bool) {
	if len(l) == 0 || l[0].Op < 1 || l[0].Op > 8 {
		return tree{}, nil, false
	}
	x, rest := tree{node: l[0]}, l[1:]
	many := 0
	switch l[0].Op {
	case api.Not:
		many = 1
	case api.And, api.Or:
		many = l[0].Kids
	}
	if many < 0 || many > len(rest) {
		return tree{}, nil, false
	}
	for range many {
		kid, left, ok := grown(rest)
		if !ok {
			return tree{}, nil, false
		}
		x.kids = append(x.kids, kid)
		rest = left
	}
	return x, rest, true
}

// treeOf is the tree that l is, if l is one.
func treeOf(l []api.Node) (tree, bool) {
	x, rest, ok := grown(l)
	return x, ok && len(rest) == 0 && len(l) <= 40
}

// flat is the nodes of a tree in their order.
func (x tree) flat() []api.Node {
	l := []api.Node{x.node}
	for _, kid := range x.kids {
		l = append(l, kid.flat()...)
	}
	return l
}

// someTree is a tree by chance of at most about so many nodes, whose leaves are made by leaf.
func someTree(chance *rand.Rand, many int, leaf func() api.Node) tree {
	if many <= 1 || chance.Intn(8) == 0 {
		return tree{node: leaf()}
	}
	switch chance.Intn(4) {
	case 0:
		return tree{api.Node{Op: api.Not}, []tree{someTree(chance, many-1, leaf)}}
	case 1:
		return someJoin(chance, api.And, many-1, leaf)
	}
	return someJoin(chance, api.Or, many-1, leaf)
}

// someJoin is an And or Or by chance of at most about so many nodes below it.
func someJoin(chance *rand.Rand, op uint8, many int, leaf func() api.Node) tree {
	kids := 1 + chance.Intn(min(many, 4))
	x := tree{node: api.Node{Op: op, Kids: kids}}
	for range kids {
		x.kids = append(x.kids, someTree(chance, many/kids, leaf))
	}
	return x
}

// wrongValues is values that are not valid.
func wrongValues() []api.Value {
	return []api.Value{
		{Kind: api.Null, N: 1}, {Kind: api.Null, S: "a"},
		{Kind: api.Bool, N: 2}, {Kind: api.Bool, N: -1}, {Kind: api.Bool, S: "a"},
		{Kind: api.Int, S: "a"}, {Kind: api.Int, N: 3, S: "3"},
		{Kind: api.Text, N: 1}, {Kind: api.Text, N: -1, S: "a"}, {Kind: api.Text, S: longest() + "x"},
		{Kind: 4}, {Kind: 4, N: 1, S: "a"}, {Kind: 255}, {Kind: 255, S: "a"},
	}
}

// few is a few valid values of a kind.
func few(kind uint8) []api.Value {
	switch kind {
	case api.Bool:
		return []api.Value{truthOf(0), truthOf(1)}
	case api.Int:
		return []api.Value{num(-1), num(0), num(1), num(5)}
	}
	return []api.Value{text(""), text("a"), text("ab"), text("b"), text("a%"), text("\xff")}
}

// allValues is Null, values of each kind, and values that are not valid.
func allValues() []api.Value {
	return slices.Concat([]api.Value{null}, few(api.Bool), few(api.Int), few(api.Text), wrongValues())
}

// valid tells whether v is a value that may be.
func valid(v api.Value) bool {
	switch v.Kind {
	case 0:
		return v.N == 0 && v.S == ""
	case 1:
		return (v.N == 0 || v.N == 1) && v.S == ""
	case 2:
		return v.S == ""
	case 3:
		return v.N == 0 && len(v.S) <= 1024
	}
	return false
}

// patterns is patterns, with letters that few's texts have.
func patterns() []string {
	return []string{"", "%", "%%", "_", "a", "a%", "%a", "_b", "ab%", "b%", "a_", "%b%", "a\\%", "\\a%", "\\%%", "\xff%", "ac%", "0%", "a%%"}
}

// someLeaf is a node without operands by chance that is right for columns of those kinds.
func someLeaf(chance *rand.Rand, columns []uint8) api.Node {
	col := chance.Intn(len(columns))
	values := few(columns[col])
	v := values[chance.Intn(len(values))]
	switch chance.Intn(9) {
	case 0:
		return api.Node{Op: api.True}
	case 1, 2:
		return api.Node{Op: api.IsNull, Col: col}
	case 3, 4:
		return api.Node{Op: api.Less, Col: col, V: v}
	case 5, 6:
		if columns[col] == api.Text {
			return api.Node{Op: api.Like, Col: col, V: text(patterns()[chance.Intn(len(patterns()))])}
		}
	}
	return api.Node{Op: api.Equal, Col: col, V: v}
}

// someRow is a row of columns of those kinds by chance, with Nulls in it.
func someRow(chance *rand.Rand, columns []uint8) api.Row {
	var r api.Row
	for _, kind := range columns {
		values := append(few(kind), null)
		r = append(r, values[chance.Intn(len(values))])
	}
	return r
}

// judged is what Eval must answer for a tree, in the words of P14.2.
func judged(x tree, r api.Row) uint8 {
	var l []uint8
	for _, kid := range x.kids {
		l = append(l, judged(kid, r))
	}
	switch x.node.Op {
	case api.True:
		return 2
	case api.Not:
		return 2 - l[0]
	case api.And:
		return slices.Min(l)
	case api.Or:
		return slices.Max(l)
	}
	v, w := r[x.node.Col], x.node.V
	if x.node.Op == api.IsNull {
		return map[bool]uint8{true: 2, false: 0}[v.Kind == 0]
	}
	if v.Kind == 0 || w.Kind == 0 {
		return 1
	}
	holds := v == w
	switch x.node.Op {
	case api.Less:
		holds = before(v, w)
	case api.Like:
		holds, _ = like.Match(w.S, v.S)
	}
	return map[bool]uint8{true: 2, false: 0}[holds]
}

// before tells whether v comes before w: by Kind, by N, by S.
func before(v, w api.Value) bool {
	if v.Kind != w.Kind {
		return v.Kind < w.Kind
	}
	if v.N != w.N {
		return v.N < w.N
	}
	return v.S < w.S
}

// shown is l as text that is short enough to be told.
func shown(l []api.Node) string {
	var parts []string
	for _, n := range l {
		s := n.V.S
		if len(s) > 20 {
			s = s[:17] + "..."
		}
		parts = append(parts, fmt.Sprintf("{%d col %d kids %d: %d %d %q}", n.Op, n.Col, n.Kids, n.V.Kind, n.V.N, s))
	}
	return fmt.Sprint(len(l), parts[:min(len(parts), 45)])
}

// mustEval tells unless the truth value of l for r is want.
func mustEval(t *testing.T, l []api.Node, r api.Row, want uint8) {
	t.Helper()
	if got := Eval(l, r); got != want {
		t.Fatalf("Eval(%s, %.100v) is %d, not %d", shown(l), r, got, want)
	}
}

// mustMay tells unless the possible truth values of l are want.
func mustMay(t *testing.T, l []api.Node, z []api.Zone, want [3]bool) {
	t.Helper()
	if got := May(l, z); got != want {
		t.Fatalf("May(%s, %.200v) is %v, not %v", shown(l), z, got, want)
	}
}

// mustRight tells unless Right finds l to be as it is told to be.
func mustRight(t *testing.T, columns []uint8, l []api.Node, valid bool) {
	t.Helper()
	want := api.ErrAsk
	if valid {
		want = api.OK
	}
	if got := Right(columns, l); got != want {
		t.Fatalf("Right(%d, %s) is %d, not %d", columns, shown(l), got, want)
	}
}
