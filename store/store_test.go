package store_test

import (
	"fmt"
	"math/rand"
	"slices"
	"strings"
	"testing"

	"unison/api"
	"unison/store"
)

func TestExample(t *testing.T) { // P14.1, P14.2
	for from := range uint8(3) {
		s, want := store.New(3, 9), []uint64{0, 0, 0}
		wantPut(t, s, id(from, 2), "b", true)
		wantStands(t, s, want, []uint64{0, 0, 0}, 1, 1)
		wantPut(t, s, id(from, 1), "a", true)
		want[from] = 2
		wantStands(t, s, want, []uint64{0, 0, 0}, 2, 2)
	}
}

func TestARow(t *testing.T) { // P14.1, P14.2: with the answers written out
	s := store.New(3, 10)
	wantStands(t, s, []uint64{0, 0, 0}, []uint64{0, 0, 0}, 0, 0)
	wantPut(t, s, id(0, 1), "abc", true)
	wantPut(t, s, id(2, 2), "de", true)
	wantStands(t, s, []uint64{1, 0, 0}, []uint64{0, 0, 0}, 5, 2)
	wantPut(t, s, id(2, 2), "x", false)
	wantPut(t, s, id(2, 1), "", true)
	wantStands(t, s, []uint64{1, 0, 2}, []uint64{0, 0, 0}, 5, 3)
	wantPut(t, s, id(0, 3), "123456", false)
	wantPut(t, s, id(0, 3), "12345", true)
	wantStands(t, s, []uint64{1, 0, 2}, []uint64{0, 0, 0}, 10, 4)
	wantPut(t, s, id(1, 1), "x", false)
	wantGet(t, s, id(0, 3), "12345", true)
	wantGet(t, s, id(2, 1), "", true)
	wantGet(t, s, id(1, 1), "", false)
	wantHas(t, s, true, id(2, 1), id(0, 3), id(0, 1))
	wantHas(t, s, false, id(2, 1), id(0, 2), id(0, 1))
	wantDrop(t, s, 2, []uint64{1, 5}, []uint64{0, 2, 1})
	wantStands(t, s, []uint64{1, 5, 2}, []uint64{1, 5, 1}, 7, 2)
	wantGet(t, s, id(0, 1), "", false)
	wantPut(t, s, id(0, 1), "", false)
	wantPut(t, s, id(1, 5), "", false)
	wantPut(t, s, id(1, 6), "fgh", true)
	wantStands(t, s, []uint64{1, 6, 2}, []uint64{1, 5, 1}, 10, 3)
	wantDrop(t, s, 0, []uint64{1, 1, 1})
	wantDrop(t, s, 0, []uint64{2})
	wantStands(t, s, []uint64{3, 6, 2}, []uint64{2, 5, 1}, 10, 3)
	wantDrop(t, s, 3, []uint64{9, 6, 2, 7})
	wantStands(t, s, []uint64{9, 6, 2}, []uint64{9, 6, 2}, 0, 0)
}

// permutations are all orders of the numbers below one.
func permutations(n int) [][]int {
	if n == 0 {
		return [][]int{nil}
	}
	var l [][]int
	for _, order := range permutations(n - 1) {
		for i := range n {
			l = append(l, slices.Insert(slices.Clone(order), i, n-1))
		}
	}
	return l
}

func TestPayloadsInAllOrders(t *testing.T) { // P14.1, P14.2: of one sender, above a floor
	for n := 1; n <= 5; n++ {
		for _, order := range permutations(n) {
			for _, floor := range []uint64{0, 3} {
				w := watch(t, 2, 20)
				w.drop([]uint64{0, floor})
				for i, at := range order {
					if !w.put(id(1, floor+uint64(at)+1), strings.Repeat("a", at)) {
						w.fail("it isn't put in")
					}
					if i == n-1 {
						wantStands(t, w.s, []uint64{0, floor + uint64(n)}, []uint64{0, floor}, n*(n-1)/2, n)
					}
				}
			}
		}
	}
}

func TestInOrderAndBackwards(t *testing.T) { // P14.1, P14.2: with what is held written out
	forth, back := store.New(2, 40), store.New(2, 40)
	for n := uint64(1); n <= 20; n++ {
		wantPut(t, forth, id(0, n), "ab", true)
		wantStands(t, forth, []uint64{n, 0}, []uint64{0, 0}, int(2*n), int(n))
		wantPut(t, back, id(1, 21-n), "cd", true)
		held := uint64(0)
		if n == 20 {
			held = 20
		}
		wantStands(t, back, []uint64{0, held}, []uint64{0, 0}, int(2*n), int(n))
	}
}

func TestSeveralSendersMixed(t *testing.T) { // P14.1, P14.2
	dice := rand.New(rand.NewSource(141))
	for n := 1; n <= 4; n++ {
		var all []api.ID
		for from := range n {
			for seq := range 5 {
				all = append(all, id(uint8(from), uint64(seq+1)))
			}
		}
		for range 10 {
			w := watch(t, n, 400)
			for _, i := range dice.Perm(len(all)) {
				w.put(all[i], fmt.Sprint(all[i]))
			}
			want := make([]uint64, n)
			for i := range want {
				want[i] = 5
			}
			wantStands(t, w.s, want, make([]uint64, n), w.used(), 5*n)
		}
	}
}

func TestIDsThatAreAlikeInOneField(t *testing.T) { // P14.1: they are others
	w := watch(t, 64, 999)
	for _, from := range []uint8{0, 1, 2, 31, 32, 62, 63} {
		for _, seq := range []uint64{1, 2, 3, 255, 256, 257, 1 << 32, 1<<32 + 1, last - 1, last} {
			if !w.put(id(from, seq), fmt.Sprint(from, seq)) {
				w.fail("it isn't put in")
			}
		}
	}
	if w.s.Len() != 70 || w.s.Held()[62] != 3 || w.s.Held()[61] != 0 {
		t.Errorf("Len, Held = %d, %d", w.s.Len(), w.s.Held())
	}
}

func TestNoBytes(t *testing.T) { // P14.1, P0.5: they are taken when nothing is left, too
	for _, room := range []int{0, 3} {
		for _, p := range [][]byte{nil, {}} {
			s := store.New(1, room)
			wantPut(t, s, id(0, 2), strings.Repeat("a", room), true)
			if !s.Put(id(0, 1), p) || s.Put(id(0, 1), p) || !s.Put(id(0, 3), p) {
				t.Error("a payload of no bytes isn't put in, or is twice")
			}
			wantPut(t, s, id(0, 4), "a", false)
			wantStands(t, s, []uint64{3}, []uint64{0}, room, 3)
			wantGet(t, s, id(0, 1), "", true)
			wantHas(t, s, true, id(0, 3), id(0, 1))
			wantDrop(t, s, 1, []uint64{1})
			wantGet(t, s, id(0, 1), "", false)
			wantGet(t, s, id(0, 3), "", true)
			wantDrop(t, s, 2, []uint64{3})
			wantStands(t, s, []uint64{3}, []uint64{3}, 0, 0)
		}
	}
}

func TestThatJustFillsTheRoom(t *testing.T) { // P14.1, P14.2: and one of a byte more than is left
	for there := range 7 {
		for left := range 7 {
			w := watch(t, 2, there+left)
			w.put(id(0, 1), strings.Repeat("a", there))
			for _, x := range []api.ID{id(0, 2), id(1, 1)} {
				if w.put(x, strings.Repeat("b", left+1)) {
					w.fail("it is put in, of a byte more than is left")
				}
			}
			if !w.put(id(0, 2), strings.Repeat("c", left)) || w.s.Used() != there+left {
				w.fail("it isn't put in, of just what is left")
			}
			if w.put(id(1, 1), "d") || !w.put(id(1, 1), "") {
				w.fail("of no room a byte is taken, or nothing isn't")
			}
		}
	}
}

func TestRoomIsFreeAgain(t *testing.T) { // P14.1, P14.2: what goes leaves just the room that it used
	for _, floor := range []uint64{1, 2, 3, 4} {
		w := watch(t, 2, 12)
		for n, p := range []string{"a", "bcd", "efghi", ""} {
			w.put(id(0, uint64(n+1)), p)
		}
		w.put(id(1, 1), "jkl")
		w.drop([]uint64{floor})
		free := []int{0, 1, 4, 9, 9}[floor]
		if w.put(id(1, 2), strings.Repeat("m", free+1)) || !w.put(id(1, 2), strings.Repeat("m", free)) {
			w.fail("of %d bytes that went not just these are free", free)
		}
		wantStands(t, w.s, []uint64{4, 2}, []uint64{floor, 0}, 12, 6-int(floor))
		w.drop([]uint64{4, 2})
		wantStands(t, w.s, []uint64{4, 2}, []uint64{4, 2}, 0, 0)
	}
}

func TestAnIDThatIsThere(t *testing.T) { // P14.1: it stays as it was put in
	for _, p := range []string{"", "a", "bcd"} {
		w := watch(t, 1, 9)
		w.put(id(0, 2), p)
		for _, again := range []string{p, "", "x", "xyz", "0123456789"} {
			if w.put(id(0, 2), again) {
				w.fail("it is put in twice")
			}
			wantGet(t, w.s, id(0, 2), p, true)
		}
		wantStands(t, w.s, []uint64{0}, []uint64{0}, len(p), 1)
	}
}

func TestAtTheFloor(t *testing.T) { // P14.1: what is just there isn't taken, the next one is
	for _, floor := range []uint64{1, 2, 5, 1 << 32, last - 1} {
		w := watch(t, 2, 9)
		w.drop([]uint64{0, floor})
		for _, seq := range []uint64{0, 1, floor / 2, floor - 1, floor} {
			if w.put(id(1, seq), "a") {
				w.fail("%d is put in, of a floor of %d", seq, floor)
			}
		}
		if !w.put(id(1, floor+1), "b") || !w.put(id(0, 1), "c") {
			w.fail("it isn't put in, though it is above the floor")
		}
		wantStands(t, w.s, []uint64{1, floor + 1}, []uint64{0, floor}, 2, 2)
	}
}

func TestAGapIsClosed(t *testing.T) { // P14.1, P14.2: by the last one that lacked, each one in turn
	for _, n := range []uint64{1, 2, 3, 9} {
		for lacks := uint64(1); lacks <= n; lacks++ {
			s := store.New(1, 99)
			for seq := n; seq >= 1; seq-- {
				if seq != lacks {
					wantPut(t, s, id(0, seq), "ab", true)
				}
			}
			wantStands(t, s, []uint64{lacks - 1}, []uint64{0}, int(2*n-2), int(n-1))
			wantPut(t, s, id(0, lacks), "c", true)
			wantStands(t, s, []uint64{n}, []uint64{0}, int(2*n-1), int(n))
		}
	}
}

func TestSeveralGaps(t *testing.T) { // P14.1, P14.2: what is held goes on to the next one
	s := store.New(2, 99)
	for _, c := range [][2]uint64{{3, 0}, {7, 0}, {1, 1}, {4, 1}, {6, 1}, {2, 4}, {9, 4}, {5, 7}, {8, 9}} {
		wantPut(t, s, id(1, c[0]), "a", true)
		if h := s.Held(); !slices.Equal(h, []uint64{0, c[1]}) {
			t.Errorf("behind Put of %d: Held = %d, want 0 and %d", c[0], h, c[1])
		}
	}
}

// gapped has of the sender 1 the numbers 1, 2, 5, 6, 8 and 9, and of the sender 0 the number 2.
func gapped(t *testing.T) *watched {
	t.Helper()
	w := watch(t, 2, 60)
	for _, seq := range []uint64{9, 5, 1, 6, 2, 8} {
		w.put(id(1, seq), strings.Repeat("a", int(seq)))
	}
	w.put(id(0, 2), "b")
	wantStands(t, w.s, []uint64{0, 2}, []uint64{0, 0}, 32, 7)
	return w
}

func TestAFloorThatRises(t *testing.T) { // P14.1, P14.2: into a gap, just up to what is there, far above all
	for _, c := range []struct {
		floor, held uint64
		gone, used  int
	}{
		{0, 2, 0, 32}, {1, 2, 1, 31}, {2, 2, 2, 29}, {3, 3, 2, 29}, {4, 6, 2, 29}, {5, 6, 3, 24}, {6, 6, 4, 18}, {7, 9, 4, 18},
		{8, 9, 5, 10}, {9, 9, 6, 1}, {10, 10, 6, 1}, {11, 11, 6, 1}, {1 << 40, 1 << 40, 6, 1}, {last, last, 6, 1},
	} {
		w := gapped(t)
		if n := w.drop([]uint64{0, c.floor}); n != c.gone {
			w.fail("Drop = %d, want %d", n, c.gone)
		}
		wantStands(t, w.s, []uint64{0, c.held}, []uint64{0, c.floor}, c.used, 7-c.gone)
		if n := w.drop([]uint64{0, c.floor}); n != 0 {
			w.fail("Drop = %d, of what went, want 0", n)
		}
		w.put(id(1, 7), "")
		w.put(id(1, c.floor+1), "")
		w.put(id(1, c.floor), "")
	}
}

func TestAFloorThatRisesStepByStep(t *testing.T) { // P14.1, P14.2: with what goes written out
	w := gapped(t)
	for i, c := range [][2]uint64{{1, 2}, {1, 2}, {0, 3}, {0, 6}, {1, 6}, {1, 6}, {0, 9}, {1, 9}, {1, 9}, {0, 10}} {
		floor := uint64(i + 1)
		if n := w.drop([]uint64{0, floor}); n != int(c[0]) {
			w.fail("Drop = %d, want %d", n, c[0])
		}
		if h := w.s.Held(); !slices.Equal(h, []uint64{0, c[1]}) {
			w.fail("Held = %d, want 0, %d", h, c[1])
		}
	}
	wantStands(t, w.s, []uint64{0, 10}, []uint64{0, 10}, 1, 1)
}

func TestAFloorThatIsToldLower(t *testing.T) { // P14.1, P14.2: it stays
	w := gapped(t)
	w.drop([]uint64{0, 7})
	for floor := range uint64(8) {
		if n := w.drop([]uint64{0, floor}); n != 0 {
			w.fail("Drop = %d, want 0", n)
		}
		w.drop([]uint64{0, floor}, []uint64{0})
		wantStands(t, w.s, []uint64{0, 9}, []uint64{0, 7}, 18, 3)
	}
	if n := w.drop([]uint64{2, 3}); n != 1 {
		w.fail("Drop = %d, want 1, of the other sender", n)
	}
	wantStands(t, w.s, []uint64{2, 9}, []uint64{2, 7}, 17, 2)
}

func TestTheGreatestNumber(t *testing.T) { // P14.1, P14.2: of a message, and greater ones
	w := watch(t, 2, 9)
	w.put(id(1, last), "z")
	wantStands(t, w.s, []uint64{0, 0}, []uint64{0, 0}, 1, 1)
	w.drop([]uint64{0, last - 2})
	wantStands(t, w.s, []uint64{0, last - 2}, []uint64{0, last - 2}, 1, 1)
	if !w.put(id(1, last-1), "yy") || w.put(id(1, last), "") || w.put(id(1, last+1), "") {
		w.fail("up to the greatest number not each one is put in once")
	}
	wantStands(t, w.s, []uint64{0, last}, []uint64{0, last - 2}, 3, 2)
	w.drop([]uint64{0, last - 1})
	wantStands(t, w.s, []uint64{0, last}, []uint64{0, last - 1}, 1, 1)
	w.drop([]uint64{0, last})
	wantStands(t, w.s, []uint64{0, last}, []uint64{0, last}, 0, 0)
	if w.put(id(1, last), "") || w.put(id(1, last+1), "") || w.put(id(1, 1), "") {
		w.fail("something is put in, though all was dropped")
	}
}

func TestNumbersAboveTheGreatestOne(t *testing.T) { // P14.1: in a vector they count as that
	for _, n := range []uint64{last - 1, last, last + 1, last + 2, 1<<63 - 1, 1 << 63, 1<<63 + 1, 1<<63 + 7, over - 1, over} {
		w := watch(t, 3, 9)
		w.put(id(0, last), "a")
		w.put(id(0, 1), "b")
		w.put(id(1, last), "c")
		w.put(id(2, last-1), "d")
		w.drop([]uint64{n, 1, 3}, []uint64{0, n})
		if n >= last {
			wantStands(t, w.s, []uint64{last, last, 3}, []uint64{last, last, 3}, 1, 1)
		} else {
			wantStands(t, w.s, []uint64{last, last, 3}, []uint64{last - 1, last - 1, 3}, 3, 3)
		}
		w.drop([]uint64{over, over, over, over})
		wantStands(t, w.s, []uint64{last, last, last}, []uint64{last, last, last}, 0, 0)
	}
}

func TestVectorsOfOtherLengths(t *testing.T) { // P14.1: of fewer numbers than there are senders, and of more
	for n := 1; n <= 4; n++ {
		for length := range 8 {
			w := watch(t, n, 99)
			for from := range 4 {
				for seq := uint64(1); seq <= 3; seq++ {
					w.put(id(uint8(from), seq), "ab")
				}
			}
			want, floors := min(n, length)*2, make([]uint64, n)
			for i := range min(n, length) {
				floors[i] = 2
			}
			if got := w.drop(slices.Repeat([]uint64{2}, length)); got != want {
				w.fail("Drop = %d, want %d", got, want)
			}
			wantStands(t, w.s, slices.Repeat([]uint64{3}, n), floors, 6*n-2*want, 3*n-want)
		}
	}
}

func TestLongVectors(t *testing.T) { // P14.1, P0.1: those that aren't processes of the store count nothing
	w := watch(t, 64, 99)
	w.put(id(63, 1), "a")
	w.put(id(0, 2), "b")
	l := make([]uint64, 400)
	for i := 64; i < len(l); i++ {
		l[i] = uint64(i)
	}
	if n := w.drop(l, make([]uint64, 5000)); n != 0 {
		w.fail("Drop = %d, want 0", n)
	}
	l[63] = 7
	if n := w.drop(l); n != 1 || w.s.Floor()[63] != 7 || w.s.Floor()[62] != 0 {
		w.fail("Drop = %d, want 1, Floor = %d", n, w.s.Floor())
	}
}

func TestSeveralVectors(t *testing.T) { // P14.1: of which each is the greatest for one sender, in all orders
	vectors := [][]uint64{{3, 1}, {1, 3, 0}, {0, 2, 2, 9}, nil}
	for _, order := range permutations(len(vectors)) {
		w := watch(t, 3, 99)
		for from := range uint8(3) {
			for seq := range uint64(4) {
				w.put(id(from, seq+1), "ab")
			}
		}
		var l [][]uint64
		for _, i := range order {
			l = append(l, vectors[i])
		}
		if n := w.drop(l...); n != 8 {
			w.fail("Drop = %d, want 8", n)
		}
		wantStands(t, w.s, []uint64{4, 4, 4}, []uint64{3, 3, 2}, 8, 4)
	}
}

func TestDropOfNone(t *testing.T) { // P14.1, P0.5: nothing goes
	w := gapped(t)
	w.drop([]uint64{0, 1})
	for _, l := range [][][]uint64{nil, {}, {nil}, {{}}, {nil, nil, {}}, {{0}}, {{0, 0, 0}, nil}} {
		wantDrop(t, w.s, 0, l...)
		if n := w.drop(l...); n != 0 {
			w.fail("Drop = %d, want 0", n)
		}
		wantStands(t, w.s, []uint64{0, 2}, []uint64{0, 1}, 31, 6)
	}
}

func TestHas(t *testing.T) { // P14.1: with the answers written out
	s := gapped(t).s
	wantHas(t, s, true)
	wantHas(t, s, true, []api.ID{}...)
	wantHas(t, s, true, id(1, 9))
	wantHas(t, s, true, id(1, 9), id(0, 2), id(1, 1))
	wantHas(t, s, true, id(1, 9), id(1, 9))
	wantHas(t, s, false, id(1, 3))
	wantHas(t, s, false, id(0, 1), id(0, 2))
	wantHas(t, s, false, id(0, 2), id(0, 1))
	wantHas(t, s, false, id(1, 1), id(1, 7), id(1, 9))
	wantHas(t, s, false, api.ID{})
	wantHas(t, s, false, id(1, 1), id(0, 0))
	s.Drop([]uint64{0, 1})
	wantHas(t, s, false, id(1, 1))
	wantHas(t, s, false, id(1, 2), id(1, 1))
	wantHas(t, s, true, id(1, 2))
	wantHas(t, store.New(1, 9), true)
	wantHas(t, store.New(1, 9), false, id(0, 1))
}

func TestGetOfWhatIsNotThere(t *testing.T) { // P14.1: what was dropped, and what never came
	w := gapped(t)
	w.drop([]uint64{0, 5})
	for _, x := range append([]api.ID{id(1, 1), id(1, 2), id(1, 5), id(1, 3), id(1, 7), id(1, 10), id(0, 1), id(0, 3), id(2, 2)}, odd...) {
		if p, ok := w.s.Get(x); len(p) > 0 || ok {
			t.Errorf("Get(%v) = %q, %t, want none", x, p, ok)
		}
	}
	wantGet(t, w.s, id(1, 6), "aaaaaa", true)
	wantGet(t, w.s, id(0, 2), "b", true)
}

func TestNumbersOfProcesses(t *testing.T) { // P14.1: below the least, above the greatest, and between
	for _, c := range [][2]int{
		{least, 1}, {-1 << 32, 1}, {-64, 1}, {-1, 1}, {0, 1}, {1, 1}, {2, 2}, {3, 3}, {31, 31}, {62, 62}, {63, 63}, {64, 64}, {65, 64},
		{66, 64}, {128, 64}, {255, 64}, {256, 64}, {257, 64}, {1 << 20, 64}, {1 << 32, 64}, {1<<32 + 1, 64}, {1 << 62, 64}, {greatest, 64},
	} {
		s := store.New(c[0], 999)
		if h, f := s.Held(), s.Floor(); len(h) != c[1] || len(f) != c[1] {
			t.Errorf("New(%d): Held, Floor = %d, %d, want %d numbers each", c[0], h, f, c[1])
		}
		for from := range 256 {
			wantPut(t, s, id(uint8(from), 1), "a", from < c[1])
		}
		if got := s.Drop(slices.Repeat([]uint64{1}, 300)); got != c[1] {
			t.Errorf("New(%d): Drop = %d, want %d", c[0], got, c[1])
		}
	}
	for _, n := range []int{least, 0, 1, 64, 65, greatest} {
		w := watch(t, n, 5)
		w.put(id(0, 1), "a")
		w.put(id(63, 1), "b")
		w.put(id(64, 1), "c")
		w.drop([]uint64{1}, make([]uint64, 70))
	}
}

func TestRooms(t *testing.T) { // P14.1, P14.2: below the least one, and great ones
	for _, room := range []int{least, least + 1, -1 << 32, -2, -1, 0} {
		w := watch(t, 1, room)
		if w.put(id(0, 1), "a") || !w.put(id(0, 1), "") || w.put(id(0, 2), "a") {
			w.fail("a room below 1 takes a byte, or not nothing")
		}
	}
	for _, room := range []int{1, 2, 5} {
		w := watch(t, 1, room)
		for seq := range uint64(6) {
			w.put(id(0, seq+1), "a")
		}
		wantStands(t, w.s, []uint64{uint64(room)}, []uint64{0}, room, room)
	}
	for _, room := range []int{1<<31 - 1, 1 << 31, 1 << 32, 1 << 62, greatest - 1, greatest} {
		w := watch(t, 1, room)
		if !w.put(id(0, 1), "a") || !w.put(id(0, 2), strings.Repeat("b", 3000)) {
			w.fail("a great room doesn't take what fits")
		}
	}
}

func TestLongPayloads(t *testing.T) { // P14.1: the longest ones, and longer ones: the room alone bounds them
	const mega = 1 << 20
	p := make([]byte, mega+1)
	rand.New(rand.NewSource(142)).Read(p)
	s := store.New(2, 3*mega)
	wantPut(t, s, id(0, 1), string(p[:mega]), true)
	wantPut(t, s, id(1, 1), string(p), true)
	wantPut(t, s, id(1, 2), string(p[:mega]), false)
	wantPut(t, s, id(1, 2), string(p[2:]), true)
	wantStands(t, s, []uint64{1, 2}, []uint64{0, 0}, 3*mega, 3)
	wantGet(t, s, id(0, 1), string(p[:mega]), true)
	wantGet(t, s, id(1, 1), string(p), true)
	wantGet(t, s, id(1, 2), string(p[2:]), true)
	wantDrop(t, s, 2, []uint64{1, 1})
	wantStands(t, s, []uint64{1, 2}, []uint64{1, 1}, mega-1, 1)
}

func TestManyPayloads(t *testing.T) { // P14.1, P14.2: as many as a group's grants let be sent, and more
	const n = 20000
	s := store.New(3, 3*n)
	for seq := uint64(n); seq >= 2; seq-- {
		if !s.Put(id(2, seq), []byte{byte(seq), byte(seq >> 8), 7}) {
			t.Fatalf("Put of %d is false", seq)
		}
	}
	wantStands(t, s, []uint64{0, 0, 0}, []uint64{0, 0, 0}, 3*n-3, n-1)
	wantPut(t, s, id(2, 1), "abc", true)
	wantStands(t, s, []uint64{0, 0, n}, []uint64{0, 0, 0}, 3*n, n)
	wantDrop(t, s, n-1, []uint64{9, 9, n - 1})
	wantStands(t, s, []uint64{9, 9, n}, []uint64{9, 9, n - 1}, 3, 1)
	wantGet(t, s, id(2, n), string([]byte{n & 255, n >> 8, 7}), true)
}

func TestIDsThatMayNotBe(t *testing.T) { // P14.1, P0.3: among the store's processes; nothing changes
	for _, n := range []int{1, 2, 63, 64} {
		w := watch(t, n, 5)
		w.put(id(0, 2), "ab")
		for _, x := range append(slices.Clone(odd), id(uint8(n), 1), id(uint8(n), 2), id(uint8(n)+1, 1), id(0, 0), id(uint8(n)-1, last+1)) {
			for _, p := range []string{"", "a", "abc", "abcd"} {
				if w.put(x, p) {
					w.fail("it is put in")
				}
			}
		}
		wantStands(t, w.s, make([]uint64, n), make([]uint64, n), 2, 1)
		if !w.put(id(uint8(n)-1, 1), "abc") {
			w.fail("the last process's isn't put in")
		}
	}
}

func TestANilStore(t *testing.T) { // P14.1, P0.1
	var s *store.Store
	for range 2 {
		for _, x := range append([]api.ID{id(0, 1), id(63, last)}, odd...) {
			wantPut(t, s, x, "", false)
			wantPut(t, s, x, "a", false)
			wantGet(t, s, x, "", false)
			wantHas(t, s, false, x)
			wantHas(t, s, false, x, x)
		}
		wantHas(t, s, true)
		wantHas(t, s, true, []api.ID{}...)
		wantDrop(t, s, 0)
		wantDrop(t, s, 0, nil, nil)
		wantDrop(t, s, 0, []uint64{1, 2}, []uint64{over})
		wantStands(t, s, nil, nil, 0, 0)
	}
}

func TestARefusedPutChangesNothing(t *testing.T) { // P0.3
	w := gapped(t)
	w.drop([]uint64{0, 1})
	for _, x := range append([]api.ID{id(1, 1), id(1, 2), id(0, 2), id(2, 1)}, odd...) {
		w.put(x, "z")
	}
	w.put(id(0, 1), strings.Repeat("z", 30))
	wantStands(t, w.s, []uint64{0, 2}, []uint64{0, 1}, 31, 6)
	if !w.put(id(0, 1), strings.Repeat("z", 29)) {
		w.fail("what was refused for want of room isn't taken, when it fits")
	}
}

func TestAskingChangesNothing(t *testing.T) { // P14.1
	w := gapped(t)
	for range 5 {
		w.look()
	}
	w.put(id(1, 3), "abc")
	w.put(id(1, 4), "abcd")
	wantStands(t, w.s, []uint64{0, 6}, []uint64{0, 0}, 39, 9)
}

func TestWhatIsHandedInIsNotKept(t *testing.T) { // P0.4: nor is it changed, nor the room behind its end
	s := store.New(2, 20)
	room := []byte("abcdef")
	for seq := range uint64(4) {
		if !s.Put(id(1, seq+1), room[:seq]) || string(room) != "abcdef" {
			t.Errorf("Put of %d changes what is handed in: %q", seq+1, room)
		}
		copy(room, "zzzzzz")
		wantGet(t, s, id(1, seq+1), "abc"[:seq], true)
		copy(room, "abcdef")
	}
	ids := []api.ID{id(1, 2), id(1, 1), id(0, 1)}
	wantHas(t, s, true, ids[:2]...)
	wantHas(t, s, false, ids...)
	if !slices.Equal(ids, []api.ID{id(1, 2), id(1, 1), id(0, 1)}) {
		t.Errorf("what is handed in is changed: %v", ids)
	}
	a, b := []uint64{1, 0, 9}, []uint64{0, 2, 7}
	wantDrop(t, s, 2, a[:2], b[:2])
	if !slices.Equal(a, []uint64{1, 0, 9}) || !slices.Equal(b, []uint64{0, 2, 7}) {
		t.Errorf("what is handed in is changed: %d, %d", a, b)
	}
	a[0], a[1], b[0], b[1] = 8, 8, 8, 8
	wantStands(t, s, []uint64{1, 4}, []uint64{1, 2}, 5, 2)
	one := []uint64{0, 3}
	wantDrop(t, s, 1, one)
	one[1] = 77
	wantStands(t, s, []uint64{1, 4}, []uint64{1, 3}, 3, 1)
}

func TestAnswersShareNothing(t *testing.T) { // P0.4: with what is kept, and with one another
	s := store.New(2, 20)
	for seq, p := range []string{"", "a", "bcdefgh"} {
		wantPut(t, s, id(0, uint64(seq+1)), p, true)
	}
	for seq, want := range []string{"", "a", "bcdefgh"} {
		one, _ := s.Get(id(0, uint64(seq+1)))
		two, _ := s.Get(id(0, uint64(seq+1)))
		one = one[:cap(one)]
		for i := range one {
			one[i] = 'z'
		}
		if string(two) != want {
			t.Errorf("two answers share memory: %q, want %q", two, want)
		}
		wantGet(t, s, id(0, uint64(seq+1)), want, true)
	}
	held, floors, more := s.Held(), s.Floor(), s.Held()
	held[0], floors[0], floors[1] = 9, 9, 9
	if !slices.Equal(more, []uint64{3, 0}) {
		t.Errorf("two answers share memory: %d", more)
	}
	wantStands(t, s, []uint64{3, 0}, []uint64{0, 0}, 8, 3)
	wantPut(t, s, id(1, 1), "a", true)
	held, floors = s.Held(), s.Floor()
	p, _ := s.Get(id(0, 2))
	wantDrop(t, s, 3, []uint64{5, 0})
	if !slices.Equal(held, []uint64{3, 1}) || !slices.Equal(floors, []uint64{0, 0}) || string(p) != "a" {
		t.Errorf("what was answered is changed: %d, %d, %q", held, floors, p)
	}
}

func TestStoresShareNothing(t *testing.T) { // P0.4, P0.6
	a, b := gapped(t), gapped(t)
	a.drop([]uint64{1, 8})
	b.look()
	b.put(id(1, 4), "b")
	b.put(id(0, 1), "")
	a.look()
	wantStands(t, a.s, []uint64{2, 9}, []uint64{1, 8}, 10, 2)
	wantStands(t, b.s, []uint64{2, 2}, []uint64{0, 0}, 33, 9)
}

func TestSmallRows(t *testing.T) { // P14.1, P14.2: all rows of four calls of these
	calls := []func(w *watched){
		func(w *watched) { w.put(id(0, 1), "a") },
		func(w *watched) { w.put(id(0, 2), "bc") },
		func(w *watched) { w.put(id(0, 3), "") },
		func(w *watched) { w.put(id(1, 1), "d") },
		func(w *watched) { w.put(id(1, 2), "efg") },
		func(w *watched) { w.put(id(0, 2), "h") },
		func(w *watched) { w.drop([]uint64{1}) },
		func(w *watched) { w.drop([]uint64{0, 1}, []uint64{2}) },
		func(w *watched) { w.drop([]uint64{0, 2, 5}) },
	}
	n := len(calls)
	for i := range n * n * n * n {
		for _, room := range []int{2, 4} {
			w := watch(t, 2, room)
			for rest, j := i, 0; j < 4; rest, j = rest/n, j+1 {
				calls[rest%n](w)
			}
		}
	}
}

// someCall puts in, mostly, of few senders, near above what is held; sometimes floors rise. It tells what came of it.
func someCall(dice *rand.Rand, w *watched) string {
	switch dice.Intn(8) {
	case 0:
		return fmt.Sprint("gone ", w.drop(w.someVector(dice)) > 0)
	case 1:
		return fmt.Sprint("gone ", w.drop(w.someVector(dice), w.someVector(dice)[:dice.Intn(w.n+1)]) > 0)
	}
	from, seq := dice.Intn(w.n+1), uint64(dice.Intn(6))
	if from < w.n {
		seq += w.s.Held()[from]
	}
	x, p := id(uint8(from), seq), strings.Repeat("abc", dice.Intn(3))
	may := w.fits(x, 0)
	return fmt.Sprint("may be ", may, ", put ", w.put(x, p))
}

// someVector is near what is held, a process or two longer or shorter.
func (w *watched) someVector(dice *rand.Rand) []uint64 {
	l := w.s.Held()
	for i := range l {
		l[i] += uint64(dice.Intn(4))
		l[i] -= min(l[i], uint64(dice.Intn(6)))
	}
	return append(l, uint64(dice.Intn(9)))
}

func TestRandomRows(t *testing.T) { // P14.1, P14.2
	dice := rand.New(rand.NewSource(143))
	came := map[string]int{}
	for n := 1; n <= 5; n++ {
		for _, room := range []int{0, 6, 20, 60} {
			w := watch(t, n, room)
			for range 250 {
				came[someCall(dice, w)]++
			}
		}
	}
	for _, what := range []string{"gone true", "gone false", "may be true, put true", "may be true, put false", "may be false, put false"} {
		if came[what] < 100 {
			t.Errorf("of %q too few came: %v", what, came)
		}
	}
}

func TestAnswersHangOnTheRowOfCallsAlone(t *testing.T) { // P0.6: not on the order of maps
	var want []string
	for range 3 {
		dice := rand.New(rand.NewSource(144))
		w := watch(t, 4, 40)
		var got []string
		for range 200 {
			someCall(dice, w)
			got = append(got, fmt.Sprint(w.s.Held(), w.s.Floor(), w.s.Used(), w.s.Len()))
		}
		if want != nil && !slices.Equal(got, want) {
			t.Errorf("one row of calls, two stores: %q, %q", got, want)
		}
		want = got
	}
}

// FuzzRow reads n and room, and calls of bytes: what is called, whose it is, and of which number or how long.
func FuzzRow(f *testing.F) { // P14.1, P14.2
	f.Add([]byte{4, 8, 1, 1, 2, 1, 1, 1, 0, 1, 2})
	f.Add([]byte{2, 3, 1, 0, 1, 2, 0, 2, 6, 1, 1, 7, 0, 5, 1, 0, 6})
	f.Add([]byte{3, 200, 7, 0, 255, 1, 0, 255, 3, 1, 4, 6, 2, 9})
	f.Fuzz(func(t *testing.T, b []byte) {
		if len(b) < 2 {
			return
		}
		w := watch(t, int(b[0])-2, int(b[1])-2)
		for b = b[2:]; len(b) >= 3 && len(w.calls) < 60; b = b[3:] {
			from, seq := b[1], uint64(b[2])
			if seq > 240 { // near the greatest number
				seq += last - 250
			}
			switch b[0] % 8 {
			case 6:
				w.drop(append(make([]uint64, from%70), seq))
			case 7:
				w.drop([]uint64{seq, uint64(from)}, []uint64{uint64(from), 0, seq, seq}, nil)
			default:
				w.put(id(from, seq), strings.Repeat("a", int(b[0]/8)))
			}
		}
	})
}
