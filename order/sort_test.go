package order

import (
	"math"
	"math/rand"
	"slices"
	"testing"

	"warp/api"
)

// P15.2: rows in order, and whether they are; and which keys others begin with.

func TestSort(t *testing.T) {
	rows := []api.Row{{num(2)}, {null}, {num(1)}}
	mustSort(t, rows, some(up(0)), []api.Row{{null}, {num(1)}, {num(2)}})
	mustSort(t, rows, some(down(0)), []api.Row{{null}, {num(2)}, {num(1)}})
	mustSort(t, rows, nil, rows)
	mustSort(t, nil, some(up(0)), nil)
	mustSort(t, []api.Row{}, nil, nil)
	mustSort(t, ints(5), some(up(0)), ints(5))
	mustSort(t, ints(3, 1, 2, 9), some(up(0)), ints(1, 2, 3, 9))
	mustSort(t, ints(3, 1, 2, 9), some(down(0)), ints(9, 3, 2, 1))
	mustSort(t, ints(0, math.MaxInt, math.MinInt, -1), some(up(0)), ints(math.MinInt, -1, 0, math.MaxInt))
	mustSort(t, []api.Row{{text("b")}, {text("ab")}, {null}, {text("")}}, some(up(0)), []api.Row{{null}, {text("")}, {text("ab")}, {text("b")}})
}

func TestSortBySeveralKeys(t *testing.T) {
	rows := pairs([2]int{2, 1}, [2]int{1, 1}, [2]int{2, 3}, [2]int{1, 2})
	mustSort(t, rows, some(up(0), up(1)), pairs([2]int{1, 1}, [2]int{1, 2}, [2]int{2, 1}, [2]int{2, 3}))
	mustSort(t, rows, some(up(0), down(1)), pairs([2]int{1, 2}, [2]int{1, 1}, [2]int{2, 3}, [2]int{2, 1}))
	mustSort(t, rows, some(down(1), up(0)), pairs([2]int{2, 3}, [2]int{1, 2}, [2]int{1, 1}, [2]int{2, 1}))
}

// Rows that no key distinguishes keep their order, also where the key is descending.
func TestSortIsStable(t *testing.T) {
	rows := pairs([2]int{2, 1}, [2]int{1, 9}, [2]int{2, 0}, [2]int{1, 8}, [2]int{2, 2})
	mustSort(t, rows, some(up(0)), pairs([2]int{1, 9}, [2]int{1, 8}, [2]int{2, 1}, [2]int{2, 0}, [2]int{2, 2}))
	mustSort(t, rows, some(down(0)), pairs([2]int{2, 1}, [2]int{2, 0}, [2]int{2, 2}, [2]int{1, 9}, [2]int{1, 8}))
	mustSort(t, rows, some(up(7)), rows)
	odd := []api.Row{{num(1)}, {{N: 5}}, {}, {null}, nil, {{S: "a"}, num(3)}, {num(0)}}
	mustSort(t, odd, some(up(0)), slices.Concat(odd[1:6], odd[6:], odd[:1]))
	mustSort(t, odd, some(down(0)), slices.Concat(odd[1:6], odd[:1], odd[6:]))
	var long []api.Row
	for i := range 5000 {
		long = append(long, api.Row{num(i % 3), num(i)})
	}
	l := Sort(long, some(down(0)))
	for i := 1; i < len(l); i++ {
		if l[i-1][0].N < l[i][0].N || l[i-1][0] == l[i][0] && l[i-1][1].N > l[i][1].N {
			t.Fatalf("the rows %v and %v stand side by side", l[i-1], l[i])
		}
	}
}

// numbered is rows of two columns, the second of which is the row's place, so that it is known where each comes from.
func numbered(first []api.Value) []api.Row {
	var rows []api.Row
	for i, v := range first {
		rows = append(rows, api.Row{v, num(i)})
	}
	return rows
}

// All lists of at most six rows of a few values: what Sort makes of them, and whether they were in order ahead of it.
func TestSortSmallLists(t *testing.T) {
	for _, l := range shortLists([]api.Value{null, num(1), num(2), {N: 7}}, 6) {
		rows := numbered(l)
		for _, keys := range [][]api.Key{some(up(0)), some(down(0)), some(down(0), down(1))} {
			mustSort(t, rows, keys, ordered(rows, keys))
			mustBeSorted(t, rows, keys, inOrder(rows, keys))
		}
	}
}

func TestSortByChance(t *testing.T) {
	chance := rand.New(rand.NewSource(2))
	for range 2000 {
		rows, keys := someRows(chance, chance.Intn(60), 4), someKeys(chance, 4)
		want := ordered(rows, keys)
		mustSort(t, rows, keys, want)
		mustBeSorted(t, rows, keys, inOrder(rows, keys))
		mustBeSorted(t, want, keys, true)
	}
	rows := someRows(chance, 4096, 8)
	keys := upTo(0, 8)
	mustSort(t, rows, keys, ordered(rows, keys))
}

func TestSorted(t *testing.T) {
	for _, keys := range [][]api.Key{nil, some(up(0)), some(down(0))} {
		mustBeSorted(t, nil, keys, true)
		mustBeSorted(t, []api.Row{}, keys, true)
		mustBeSorted(t, ints(5), keys, true)
		mustBeSorted(t, []api.Row{nil}, keys, true)
		mustBeSorted(t, ints(5, 5, 5), keys, true)
	}
	mustBeSorted(t, ints(1, 2, 2, 3), some(up(0)), true)
	mustBeSorted(t, ints(1, 2, 2, 3), some(down(0)), false)
	mustBeSorted(t, ints(3, 2, 2, 1), some(down(0)), true)
	mustBeSorted(t, ints(3, 2, 2, 1), some(up(0)), false)
	mustBeSorted(t, ints(3, 2, 2, 1), nil, true)
	// The fault may be the first pair, or the last one.
	mustBeSorted(t, ints(2, 1, 3, 4), some(up(0)), false)
	mustBeSorted(t, ints(1, 2, 4, 3), some(up(0)), false)
	mustBeSorted(t, []api.Row{{null}, {num(1)}}, some(down(0)), true)
	mustBeSorted(t, []api.Row{{num(1)}, {null}}, some(down(0)), false)
	mustBeSorted(t, []api.Row{{num(1)}, {}}, some(up(0)), false)
	mustBeSorted(t, []api.Row{{}, {num(1)}}, some(up(0)), true)
	mustBeSorted(t, pairs([2]int{1, 2}, [2]int{1, 1}), some(up(0)), true)
	mustBeSorted(t, pairs([2]int{1, 2}, [2]int{1, 1}), some(up(0), up(1)), false)
	mustBeSorted(t, pairs([2]int{1, 2}, [2]int{1, 1}), some(up(0), down(1)), true)
}

// mustBegin tells unless Begins answers as wanted.
func mustBegin(t *testing.T, keys, by []api.Key, want bool) {
	t.Helper()
	if got := Begins(keys, by); got != want {
		t.Fatalf("Begins(%v, %v) is %v", keys, by, got)
	}
}

func TestBegins(t *testing.T) {
	keys := some(up(0), down(2), up(1))
	mustBegin(t, nil, nil, true)
	mustBegin(t, []api.Key{}, nil, true)
	mustBegin(t, nil, []api.Key{}, true)
	mustBegin(t, keys, nil, true)
	mustBegin(t, keys, some(up(0)), true)
	mustBegin(t, keys, some(up(0), down(2)), true)
	mustBegin(t, keys, keys, true)
	mustBegin(t, nil, some(up(0)), false)
	mustBegin(t, keys, some(down(0)), false)
	mustBegin(t, keys, some(up(1)), false)
	mustBegin(t, keys, some(up(0), up(2)), false)
	mustBegin(t, keys, some(up(0), down(1)), false)
	mustBegin(t, keys, some(down(2), up(0)), false)
	mustBegin(t, keys, append(keys, up(3)), false)
	mustBegin(t, keys, some(down(2), up(1)), false)
	// Columns that no row has, and those that occur again, are keys like others here.
	mustBegin(t, some(up(-1), up(-1)), some(up(-1)), true)
	mustBegin(t, some(up(-1)), some(up(-1), up(-1)), false)
	mustBegin(t, some(up(math.MaxInt), up(0)), some(up(math.MaxInt)), true)
}

// What lies beyond the length of the keys does not count.
func TestBeginsReadsNothingBeyond(t *testing.T) {
	memory := some(up(0), up(1), up(2))
	mustBegin(t, memory[:1], memory[:2], false)
	mustBegin(t, memory[:1], memory, false)
	mustBegin(t, memory[:0], memory[:1], false)
	mustBegin(t, memory[:2], memory[:1], true)
	mustBegin(t, memory[:1], some(up(0), down(5))[:1], true)
}

func TestBeginsOfSmallLists(t *testing.T) {
	l := shortLists([]api.Key{up(0), down(0), up(1)}, 4)
	for _, keys := range l {
		for _, by := range l {
			want := len(by) <= len(keys)
			for i, k := range by {
				want = want && keys[i].Col == k.Col && keys[i].Down == k.Down
			}
			mustBegin(t, keys, by, want)
		}
	}
}
