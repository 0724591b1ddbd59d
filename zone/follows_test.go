package zone

import (
	"math/rand"
	"slices"
	"testing"

	"warp/api"
	"warp/cell"
)

// P13.4: what follows from the other promises.

// nullOf is the truth value of whether v is Null.
func nullOf(v api.Value) uint8 {
	if v.Kind == api.Null {
		return api.Yes
	}
	return api.No
}

// mustHold tells unless the truth values of the conditions for each value of l are possible for its zone.
func mustHold(t *testing.T, l, against []api.Value) {
	t.Helper()
	z := Of(l)
	for _, v := range against {
		equal, less := Equal(z, v), Less(z, v)
		for _, x := range l {
			if !equal[cell.Equal(x, v)] || !less[cell.Less(x, v)] {
				t.Fatalf("for %v, %v and %v are not possible for %v in %v", shown(v), cell.Equal(x, v), cell.Less(x, v), shown(x), shownZone(z))
			}
		}
	}
	for _, x := range l {
		if !Null(z)[nullOf(x)] {
			t.Fatalf("%v in %v can't be, says Null", shown(x), shownZone(z))
		}
	}
}

// longLists is lists of a kind's values and Null by chance.
func longLists(chance *rand.Rand, kind uint8) [][]api.Value {
	var all [][]api.Value
	for range 200 {
		values := some(kind)
		from := chance.Intn(len(values))
		values = slices.Concat(values[from:from+1+chance.Intn(len(values)-from)], make([]api.Value, chance.Intn(3)))
		all = append(all, someList(chance, values, chance.Intn(60)))
	}
	return append(all, make([]api.Value, 4096), slices.Repeat(few(kind)[1:2], 4096))
}

func TestTruthsArePossible(t *testing.T) {
	chance := rand.New(rand.NewSource(2))
	for _, kind := range kinds {
		for _, l := range append(smallLists(append(few(kind), null), 4), longLists(chance, kind)...) {
			mustHold(t, l, allValues())
		}
	}
	for _, l := range smallLists(allValues(), 2) {
		mustHold(t, l, allValues())
	}
}

// What is possible for some of the values is possible for all of them.
func TestPossibleStaysPossible(t *testing.T) {
	for _, kind := range kinds {
		lists := smallLists(append(few(kind), null), 3)
		for _, a := range lists {
			for _, b := range lists {
				mustGrow(t, Of(a), Of(slices.Concat(a, b)))
			}
		}
	}
}

// mustGrow tells unless all that is possible for part is possible for whole.
func mustGrow(t *testing.T, part, whole api.Zone) {
	t.Helper()
	for _, truth := range truths {
		for _, v := range allValues() {
			if Equal(part, v)[truth] && !Equal(whole, v)[truth] || Less(part, v)[truth] && !Less(whole, v)[truth] {
				t.Fatalf("%d is possible for %v and %v, not for %v", truth, shown(v), shownZone(part), shownZone(whole))
			}
		}
		if Null(part)[truth] && !Null(whole)[truth] {
			t.Fatalf("%d is possible for Null and %v, not for %v", truth, shownZone(part), shownZone(whole))
		}
	}
}

// mustJoin tells unless the zone of a and b is the Merge of their zones.
func mustJoin(t *testing.T, a, b []api.Value) {
	t.Helper()
	whole := slices.Concat(a, b)
	mustBe(t, Merge(Of(a), Of(b)), Of(whole), "Merge", shownList(a), shownList(b))
	mustBe(t, Merge(Of(b), Of(a)), zoneOf(whole), "Merge", shownList(b), shownList(a))
}

func TestMergeIsOfBothLists(t *testing.T) {
	chance := rand.New(rand.NewSource(3))
	for _, kind := range kinds {
		lists := smallLists(append(few(kind), null), 3)
		for _, a := range lists {
			for _, b := range lists {
				mustJoin(t, a, b)
			}
		}
		for range 300 {
			mustJoin(t, someList(chance, allValues(), chance.Intn(40)), someList(chance, some(kind), chance.Intn(40)))
		}
	}
	lists := smallLists(allValues(), 1)
	for _, a := range lists {
		for _, b := range lists {
			mustJoin(t, a, b)
		}
	}
}

// A list's zone comes of its blocks' zones, in whatever order they are merged.
func TestMergeOfManyLists(t *testing.T) {
	chance := rand.New(rand.NewSource(4))
	for _, kind := range kinds {
		for _, l := range longLists(chance, kind) {
			var left, right api.Zone
			for block := range slices.Chunk(l, 16) {
				left, right = Merge(left, Of(block)), Merge(Of(block), right)
			}
			mustBe(t, left, Of(l), "Merge of blocks", shownList(l))
			mustBe(t, right, Of(l), "Merge of blocks from behind", shownList(l))
		}
	}
}

// Of lists of valid values, Null or of a kind, Right knows the zones, and Take undoes Put.
func TestZonesComeBack(t *testing.T) {
	chance := rand.New(rand.NewSource(5))
	for _, kind := range kinds {
		all := append(smallLists(append(few(kind), null), 5), longLists(chance, kind)...)
		for _, l := range all {
			z := Of(l)
			mustBeRight(t, kind, z, true)
			mustTakeAsFields(t, Put(z))
			mustTake(t, kind, Put(z), z)
		}
	}
}
