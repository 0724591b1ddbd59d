package ask

import (
	"math"
	"math/rand"
	"slices"
	"testing"

	"warp/api"
)

// P14.2: what comes of a condition for a row.

func TestEval(t *testing.T) {
	l := both(less(0, num(5)), isNull(1))
	mustEval(t, l, api.Row{num(4), null}, api.Yes)
	mustEval(t, l, api.Row{null, null}, api.Unknown)
	mustEval(t, l, api.Row{num(5), null}, api.No)
	mustEval(t, l, api.Row{num(4), num(4)}, api.No)
	mustEval(t, l, api.Row{null, num(4)}, api.No)
}

func TestEvalOfOneNode(t *testing.T) {
	r := api.Row{truthOf(1), num(3), text("ab"), null}
	for _, c := range []struct {
		l    []api.Node
		want uint8
	}{
		{always(), api.Yes},
		{equal(0, truthOf(1)), api.Yes},
		{equal(0, truthOf(0)), api.No},
		{less(0, truthOf(1)), api.No},
		{equal(1, num(3)), api.Yes},
		{equal(1, num(4)), api.No},
		{less(1, num(4)), api.Yes},
		{less(1, num(3)), api.No},
		{less(1, num(2)), api.No},
		{equal(2, text("ab")), api.Yes},
		{equal(2, text("a")), api.No},
		{less(2, text("abc")), api.Yes},
		{less(2, text("ab")), api.No},
		{likes(2, "a%"), api.Yes},
		{likes(2, "_b"), api.Yes},
		{likes(2, "%"), api.Yes},
		{likes(2, "a"), api.No},
		{likes(2, ""), api.No},
		{isNull(0), api.No},
		{isNull(1), api.No},
		{isNull(2), api.No},
		{isNull(3), api.Yes},
		{equal(3, num(0)), api.Unknown},
		{less(3, num(0)), api.Unknown},
		{equal(3, text("")), api.Unknown},
		{likes(3, ""), api.Unknown},
		{likes(3, "%"), api.Unknown},
		{likes(3, "a"), api.Unknown},
	} {
		mustEval(t, c.l, r, c.want)
	}
}

// leaves is conditions of one node whose truth values for the row of leafRow are No, Unknown and Yes.
func leaves() [3][]api.Node {
	return [3][]api.Node{equal(0, num(2)), equal(1, num(2)), equal(0, num(1))}
}

func leafRow() api.Row { return api.Row{num(1), null} }

// And and Or of up to five operands, and Not, for all truth values of the operands.
func TestEvalOfOperands(t *testing.T) {
	r := leafRow()
	lists := [][]uint8{nil}
	for i := 0; i < len(lists); i++ {
		if len(lists[i]) < 5 {
			for _, truth := range truths {
				lists = append(lists, append(slices.Clone(lists[i]), truth))
			}
		}
		if len(lists[i]) == 0 {
			continue
		}
		var operands, upside [][]api.Node
		for _, truth := range lists[i] {
			operands = append(operands, leaves()[truth])
			upside = append(upside, not(leaves()[2-truth]))
		}
		for _, o := range [][][]api.Node{operands, upside} {
			mustEval(t, both(o...), r, slices.Min(lists[i]))
			mustEval(t, either(o...), r, slices.Max(lists[i]))
			mustEval(t, not(both(o...)), r, 2-slices.Min(lists[i]))
			mustEval(t, not(either(o...)), r, 2-slices.Max(lists[i]))
			mustEval(t, both(always(), either(o...), always()), r, slices.Max(lists[i]))
		}
	}
}

// Each operand is the one that begins where the one before it ends, however many nodes that has.
func TestEvalOfNestedOperands(t *testing.T) {
	for _, a := range truths {
		for _, b := range truths {
			for _, c := range truths {
				x, y, z := leaves()[a], leaves()[b], leaves()[c]
				mustEval(t, either(both(x, y), z), leafRow(), max(min(a, b), c))
				mustEval(t, either(z, both(x, y)), leafRow(), max(min(a, b), c))
				mustEval(t, both(either(not(x), y), not(z)), leafRow(), min(max(2-a, b), 2-c))
				mustEval(t, both(not(either(x, both(y))), z, not(not(y))), leafRow(), min(2-max(a, b), c, b))
				mustEval(t, not(either(not(both(x, y)), z)), leafRow(), 2-max(2-min(a, b), c))
			}
		}
	}
}

// Conditions and rows by chance, held against trees.
func TestEvalOfSome(t *testing.T) {
	chance := rand.New(rand.NewSource(2))
	columns := []uint8{api.Int, api.Text, api.Bool, api.Text, api.Int}
	leaf := func() api.Node { return someLeaf(chance, columns) }
	many := map[uint8]int{}
	for range 3000 {
		x := someTree(chance, 1+chance.Intn(30), leaf)
		l := x.flat()
		if len(l) > 40 {
			continue
		}
		for range 10 {
			r := someRow(chance, columns)
			want := judged(x, r)
			many[want]++
			mustEval(t, l, r, want)
		}
	}
	for _, truth := range truths {
		if many[truth] < 1000 {
			t.Errorf("%d conditions were %d", many[truth], truth)
		}
	}
}

// All nodes of one kind of value, for all values of it.
func TestEvalOfAllLeaves(t *testing.T) {
	for _, kind := range kinds {
		for _, v := range append(few(kind), null) {
			var nodes []api.Node
			for _, w := range few(kind) {
				nodes = append(nodes, api.Node{Op: api.Equal, Col: 1, V: w}, api.Node{Op: api.Less, Col: 1, V: w})
			}
			for _, p := range patterns() {
				if kind == api.Text {
					nodes = append(nodes, api.Node{Op: api.Like, Col: 1, V: text(p)})
				}
			}
			for _, n := range append(nodes, api.Node{Op: api.IsNull, Col: 1}, api.Node{Op: api.True}) {
				r := api.Row{text("other"), v, null}
				mustEval(t, []api.Node{n}, r, judged(tree{node: n}, r))
			}
		}
	}
}

// Without nodes, and with more than there may be, nothing is known.
func TestEvalOfManyNodes(t *testing.T) {
	r := leafRow()
	mustEval(t, nil, r, api.Unknown)
	mustEval(t, []api.Node{}, nil, api.Unknown)
	for n := 1; n < 100; n++ {
		want := api.Yes
		if n%2 == 0 {
			want = api.No
		}
		joined := api.Yes
		if n > 40 {
			want, joined = api.Unknown, api.Unknown
		}
		mustEval(t, nots(n-1, always()), r, want)
		if n > 1 {
			mustEval(t, both(slices.Repeat([][]api.Node{always()}, n-1)...), r, joined)
			mustEval(t, either(slices.Repeat([][]api.Node{always()}, n-1)...), r, joined)
		}
		if n > 40 {
			mustEval(t, slices.Repeat(always(), n), r, api.Unknown)
		}
	}
	mustEval(t, nots(1<<20, always()), r, api.Unknown)
}

// Whatever the nodes and the row, something comes of them.
func TestEvalOfWrongConditions(t *testing.T) {
	numbers := []int{math.MinInt, -1, 0, 1, 2, 40, 41, math.MaxInt}
	var nodes []api.Node
	for op := range 11 {
		for _, col := range numbers {
			for _, kids := range numbers {
				nodes = append(nodes, api.Node{Op: uint8(op), Col: col, Kids: kids})
			}
		}
	}
	rows := []api.Row{nil, {}, {null}, {num(1)}, {num(1), text("a")}, {truthOf(1), {Kind: 4}, {Kind: 255, N: 7}}, wrongValues()}
	tell := func(l []api.Node) {
		for _, r := range rows {
			if got := Eval(l, r); got > api.Yes {
				t.Fatalf("Eval(%s, %.100v) is %d", shown(l), r, got)
			}
		}
	}
	chance := rand.New(rand.NewSource(3))
	for _, n := range nodes {
		for _, v := range append(allValues(), text("\\"), text("a\\")) {
			n.V = v
			tell([]api.Node{n})
			tell([]api.Node{n, {Op: api.True}})
			tell([]api.Node{{Op: api.Not}, n})
		}
	}
	for range 100000 {
		var l []api.Node
		for range chance.Intn(7) {
			n := nodes[chance.Intn(len(nodes))]
			if chance.Intn(2) == 0 {
				n.Kids = chance.Intn(4)
			}
			l = append(l, n)
		}
		tell(l)
	}
}
