package pack

import (
	"bytes"
	"math/rand"
	"slices"
	"testing"

	"warp/api"
)

// P8.4: what follows from the other promises.

// mustReturn tells unless Unpack undoes Pack for l.
func mustReturn(t *testing.T, l []uint64, width int) {
	t.Helper()
	b, e := Pack(l, width)
	size, e2 := Bytes(len(l), width)
	if e != api.OK || e2 != api.OK || len(b) != size {
		t.Fatalf("Pack(%d, %d) is %d and error %d", l, width, b, e)
	}
	mustUnpack(t, b, len(l), width, l)
}

func TestUnpackUndoesPack(t *testing.T) {
	chance := rand.New(rand.NewSource(7))
	for width := range 65 {
		for range 20 {
			l := some(chance, chance.Intn(40), width)
			mustReturn(t, l, width)
			mustReturn(t, l, Width(l))
			mustReturn(t, l, 64)
		}
		mustReturn(t, some(chance, 4096, width), width)
	}
}

// Whatever can be unpacked is packed again to the same bytes.
func TestPackUndoesUnpack(t *testing.T) {
	chance := rand.New(rand.NewSource(8))
	done := 0
	for range 20000 {
		many, width := chance.Intn(12), chance.Intn(65)
		b := make([]byte, (many*width+7)/8)
		chance.Read(b)
		if used := many * width % 8; used > 0 && chance.Intn(8) > 0 {
			b[len(b)-1] &= 1<<used - 1
		}
		l, e := Unpack(b, many, width)
		if e == api.OK {
			mustPack(t, l, width, b)
			done++
		}
	}
	if done < 10000 {
		t.Errorf("only %d could be unpacked", done)
	}
}

func TestUnframeUndoesFrame(t *testing.T) {
	chance := rand.New(rand.NewSource(9))
	for i := range 3000 {
		many := chance.Intn(40)
		if i%100 == 0 {
			many = 4096 - chance.Intn(2)
		}
		l := someInts(chance, many)
		b, e := Frame(l)
		if e != api.OK {
			t.Fatalf("Frame(%d) is error %d", l, e)
		}
		mustUnframe(t, b, l)
	}
}

// Different lists have different Frames: all lists of at most four integers of a few.
func TestFramesDiffer(t *testing.T) {
	lists := [][]int{nil}
	for from := 0; from < len(lists); from++ {
		if len(lists[from]) < 4 {
			for _, n := range []int{-2, -1, 0, 1, 5} {
				lists = append(lists, append(slices.Clone(lists[from]), n))
			}
		}
	}
	var frames [][]byte
	for _, l := range lists {
		b, e := Frame(l)
		if e != api.OK {
			t.Fatalf("Frame(%d) is error %d", l, e)
		}
		mustUnframe(t, b, l)
		frames = append(frames, b)
	}
	slices.SortFunc(frames, bytes.Compare)
	if len(slices.CompactFunc(frames, bytes.Equal)) != len(lists) {
		t.Error("two lists have the same Frame")
	}
}
