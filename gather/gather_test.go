package gather_test

import (
	"bytes"
	"fmt"
	"math"
	"math/rand"
	"runtime/debug"
	"slices"
	"testing"

	"unison/api"
	"unison/gather"
)

func TestExample(t *testing.T) { // P13.1, P13.2
	g := gather.New(2, 4, 4)
	l := frames(id(1), "abcd", 2)
	wantPut(t, g, l[1], kept, "")
	wantPut(t, g, l[0], whole, "abcd")
	wantParts(t, g, 0)
	wantCounts(t, g, 0, 0, 0, 1, 1)
}

func TestTheKindsAreTheChapters(t *testing.T) { // P13.1
	if api.PartBad != bad || api.PartOld != old || api.PartLost != lost || api.PartKept != kept || api.PartWhole != whole {
		t.Error("the kinds are others than 1 to 5")
	}
}

func TestARow(t *testing.T) { // P13.1, P13.2: with the answers written out
	g := gather.New(3, 10, 17)
	a, b, c := frames(id(1), "0123456789", 3), frames(id(2), "abcd", 3), frames(id(3), "ABCDEFG", 3)
	wantParts(t, g, 0)
	wantPut(t, g, b[1], kept, "")
	wantPut(t, g, a[0], kept, "")
	wantParts(t, g, 14, id(2), id(1))
	wantFirst(t, g, id(1), 1)
	wantFirst(t, g, id(2), 0)
	wantPut(t, g, a[1], kept, "")
	wantPut(t, g, a[3], kept, "")
	wantPut(t, g, a[0], old, "")
	wantFirst(t, g, id(1), 2)
	wantPut(t, g, c[0], lost, "")
	wantParts(t, g, 14, id(2), id(1))
	g.Want(id(3))
	wantParts(t, g, 14, id(2), id(1))
	wantCounts(t, g, 0, 1, 1, 4, 0)
	wantPut(t, g, c[1], kept, "")
	wantParts(t, g, 17, id(1), id(3))
	wantCounts(t, g, 0, 1, 2, 5, 0)
	wantPut(t, g, b[0], lost, "")
	wantPut(t, g, frames(id(1), "01234567", 3)[2], bad, "")
	wantPut(t, g, a[2], whole, "0123456789")
	wantParts(t, g, 7, id(3))
	wantFirst(t, g, id(1), 0)
	wantPut(t, g, b[0], kept, "")
	wantParts(t, g, 11, id(3), id(2))
	wantDrop(t, g, 1, id(3), id(3), id(1))
	wantParts(t, g, 4, id(2))
	wantPut(t, g, b[1], whole, "abcd")
	wantParts(t, g, 0)
	wantCounts(t, g, 1, 1, 3, 6, 2)
}

// orders are ways in which so many chunks may come.
func orders(dice *rand.Rand, n int) [][]int {
	var rising, even, odd []int
	for i := range n {
		rising = append(rising, i)
		if i%2 == 0 {
			even = append(even, i)
		} else {
			odd = append(odd, i)
		}
	}
	falling := slices.Clone(rising)
	slices.Reverse(falling)
	return [][]int{rising, falling, append(even, odd...), dice.Perm(n)}
}

// wantWhole holds that a payload is whole with the last of its chunks that comes, not ahead of it, and that it is the
// one of which they are.
func wantWhole(w *watched, l []api.Frame, order []int, p []byte) {
	w.t.Helper()
	for i, at := range order {
		got, what := w.put(l[at])
		if i < len(order)-1 && (what != kept || len(got) > 0) {
			w.fail("made %d of a chunk, want %d", what, kept)
		}
		if i == len(order)-1 && (what != whole || !bytes.Equal(got, p)) {
			w.fail("made %d of the last chunk, %.99q, want %d, %.99q", what, got, whole, p)
		}
	}
}

func TestPayloadsOfManyLengths(t *testing.T) { // P13.1, P13.2: by many chunk sizes, in order, backwards and mixed
	dice := rand.New(rand.NewSource(131))
	for size := range 26 {
		p := payload(size)
		for by := 1; by < 28; by++ {
			w := watch(t, by, size, size)
			l := frames(id(4), string(p), by)
			for _, order := range orders(dice, len(l)) {
				wantWhole(w, l, order, p)
			}
			wantParts(t, w.g, 0)
		}
	}
}

func TestChunksInAllOrders(t *testing.T) { // P13.2: of up to five chunks
	for n := 1; n <= 5; n++ {
		p := payload(2*n - 1)
		l := frames(id(1), string(p), 2)
		w := watch(t, 2, 10, 10)
		for _, order := range permutations(n) {
			wantWhole(w, l, order, p)
		}
	}
}

// permutations are all orders of the numbers below one.
func permutations(n int) [][]int {
	if n == 0 {
		return [][]int{nil}
	}
	var l [][]int
	for _, order := range permutations(n - 1) {
		for i := range n {
			l = append(l, slices.Insert(slices.Clone(order), i, n-1))
		}
	}
	return l
}

func TestChunksMoreThanOnce(t *testing.T) { // P13.1, P13.2: each again behind each one, but the last one
	dice := rand.New(rand.NewSource(132))
	for size := range 16 {
		p := payload(size)
		for by := 1; by < 17; by++ {
			l := frames(id(4), string(p), by)
			for _, order := range orders(dice, len(l)) {
				w := watch(t, by, size+3, size+3)
				last := len(order) - 1
				for i, at := range order[:last] {
					w.put(l[at])
					for _, again := range order[:i+1] {
						if got, what := w.put(l[again]); what != old || len(got) > 0 {
							w.fail("made %d of a chunk that is there, want %d", what, old)
						}
					}
				}
				wantWhole(w, l, order[last:], p)
				wantCounts(t, w.g, 0, last*(last+1)/2, 0, last, 1)
			}
		}
	}
}

func TestSeveralIDsAtATime(t *testing.T) { // P13.1, P13.2: mixed, some chunks more than once
	dice := rand.New(rand.NewSource(133))
	for by := 1; by < 8; by++ {
		want, room := map[api.ID][]byte{}, 0
		var all []api.Frame
		for n := range 9 {
			x := api.ID{From: uint8(n % 3), Seq: uint64(1 + n/2)}
			want[x] = payload(3*n + by)
			all = append(all, frames(x, string(want[x]), by)...)
			room += len(want[x])
		}
		w := watch(t, by, 40, room)
		count, got := len(all), map[api.ID]bool{}
		for len(all) > 0 {
			i := dice.Intn(len(all))
			p, what := w.put(all[i])
			if what == whole {
				if !bytes.Equal(p, want[all[i].ID]) || got[all[i].ID] {
					w.fail("whole is %.99q, want %.99q", p, want[all[i].ID])
				}
				got[all[i].ID] = true
			} else {
				w.put(all[i])
			}
			all = slices.Delete(all, i, i+1)
		}
		if len(got) != len(want) {
			t.Errorf("by %d: %d payloads are whole, want %d", by, len(got), len(want))
		}
		wantParts(t, w.g, 0)
		wantCounts(t, w.g, 0, count-len(want), 0, count-len(want), len(want))
	}
}

func TestIDsThatAreAlikeInOneField(t *testing.T) { // P13.2: they are others
	w := watch(t, 1, 2, 99)
	var l []api.ID
	for _, from := range []uint8{0, 1, 2, 63} {
		for _, seq := range []uint64{1, 2, 3, 1<<32 + 1, 1<<62 - 1, 1 << 62} {
			l = append(l, api.ID{From: from, Seq: seq})
		}
	}
	text := func(i int) string { return string(rune('A'+i)) + string(rune('a'+i)) }
	for i, x := range l {
		w.put(frames(x, text(i), 1)[0])
	}
	wantParts(t, w.g, 2*len(l), l...)
	for i, x := range l {
		wantPut(t, w.g, frames(x, text(i), 1)[1], whole, text(i))
	}
}

func TestTheLastChunkThatLacks(t *testing.T) { // P13.1, P13.2: each one, among so many that words end
	for _, n := range []int{1, 2, 3, 63, 64, 65, 127, 128, 129, 130} {
		p := string(payload(2*n - 1))
		l := frames(id(3), p, 2)
		for lacks := range l {
			g := gather.New(2, 260, 260)
			for at, f := range l {
				if at != lacks {
					wantPut(t, g, f, kept, "")
					wantFirst(t, g, id(3), min(lacks, at+1))
				}
			}
			if n > 1 {
				wantFirst(t, g, id(3), lacks)
				wantParts(t, g, len(p), id(3))
			}
			wantPut(t, g, l[lacks], whole, p)
			wantFirst(t, g, id(3), 0)
			wantParts(t, g, 0)
			wantCounts(t, g, 0, 0, 0, n-1, 1)
		}
	}
}

func TestFirst(t *testing.T) { // P13.1: with the answers written out
	g := gather.New(1, 9, 18)
	l := frames(id(1), "abcdefghi", 1)
	wantFirst(t, g, id(1), 0)
	for _, c := range [][2]int{{1, 0}, {3, 0}, {0, 2}, {8, 2}, {2, 4}, {5, 4}, {4, 6}, {6, 7}} {
		wantPut(t, g, l[c[0]], kept, "")
		wantFirst(t, g, id(1), c[1])
		wantFirst(t, g, id(2), 0)
		wantFirst(t, g, api.ID{From: 2, Seq: 1}, 0)
	}
	wantPut(t, g, frames(id(2), "123456789", 1)[0], kept, "")
	wantFirst(t, g, id(2), 1)
	wantFirst(t, g, id(1), 7)
	wantPut(t, g, l[7], whole, "abcdefghi")
	wantFirst(t, g, id(1), 0)
	wantDrop(t, g, 1, id(2))
	wantFirst(t, g, id(2), 0)
}

func TestNoBytes(t *testing.T) { // P13.1, P13.2, P0.5: whole at once, whether or not there is room left
	none := api.Frame{ID: id(1), Of: 1}
	for _, room := range []int{0, 3} {
		w := watch(t, 2, room, room)
		if room > 0 {
			w.put(frames(id(2), "abc", 2)[1])
		}
		for n := range 3 {
			for _, data := range [][]byte{nil, {}} {
				none.Data = data
				wantWhole(w, []api.Frame{none}, []int{0}, nil)
			}
			wantCounts(t, w.g, 0, 0, 0, min(room, 1), 2*n+2)
		}
		for _, f := range []api.Frame{
			{ID: id(1)}, {ID: id(1), Of: 2}, {ID: id(1), At: 1, Of: 1}, {ID: id(1), At: 1, Of: 2}, {ID: id(1), Of: 1, Data: []byte("a")},
		} {
			if _, what := w.put(f); what != bad {
				w.fail("made %d of what can't be, want %d", what, bad)
			}
		}
		w.want(id(1))
		wantWhole(w, []api.Frame{none}, []int{0}, nil)
	}
}

func TestNoBytesOfAnIDThatHasAPart(t *testing.T) { // P13.1: it is of another Size
	w := watch(t, 2, 4, 4)
	w.put(frames(id(1), "abc", 2)[0])
	if _, what := w.put(api.Frame{ID: id(1), Of: 1}); what != bad {
		t.Errorf("made %d of it, want %d", what, bad)
	}
	wantParts(t, w.g, 3, id(1))
}

func TestOfJustMostBytes(t *testing.T) { // P13.1, P13.2: and of one more, and of one less
	for most := range 20 {
		for _, by := range []int{1, 2, 3, 5, 7, 19, 20, 21, sixty4} {
			w := watch(t, by, most, 100)
			for _, size := range []int{most - 1, most} {
				if size >= 0 {
					l := frames(id(1), string(payload(size)), by)
					wantWhole(w, l, orders(rand.New(rand.NewSource(1)), len(l))[1], payload(size))
				}
			}
			for _, f := range frames(id(2), string(payload(most+1)), by) {
				if _, what := w.put(f); what != bad {
					w.fail("made %d of a chunk of a payload that is too long, want %d", what, bad)
				}
			}
			w.want(id(2))
			w.put(frames(id(2), string(payload(most+1)), by)[0])
			wantParts(t, w.g, 0)
		}
	}
}

func TestAPartThatJustFillsTheRoom(t *testing.T) { // P13.1, P13.2: and one of a byte more than is left
	for there := 2; there < 9; there++ {
		for left := 2; left < 9; left++ {
			w := watch(t, 1, max(there, left+1), there+left)
			w.put(frames(id(1), string(payload(there)), 1)[0])
			more := frames(id(2), string(payload(left+1)), 1)
			for _, f := range more {
				if p, what := w.put(f); what != lost || len(p) > 0 {
					w.fail("made %d of a chunk for which there is no room, want %d", what, lost)
				}
			}
			wantParts(t, w.g, there, id(1))
			just := frames(id(3), string(payload(left)), 1)
			w.put(just[1])
			wantParts(t, w.g, there+left, id(1), id(3))
			if _, what := w.put(api.Frame{ID: id(4), Of: 1, Size: 1, Data: []byte("a")}); what != lost {
				w.fail("made %d of a payload of one byte, want %d", what, lost)
			}
			w.put(more[0])
			w.put(just[0])
			wantCounts(t, w.g, 0, 0, left+3)
			w.drop(id(1), id(3))
			w.put(more[0])
			wantParts(t, w.g, left+1, id(2))
		}
	}
}

func TestRoomIsOfWholePayloads(t *testing.T) { // P13.1: not of what came of them
	g := gather.New(1, 10, 19)
	wantPut(t, g, frames(id(1), "0123456789", 1)[0], kept, "")
	wantParts(t, g, 10, id(1))
	wantPut(t, g, frames(id(2), "0123456789", 1)[0], lost, "")
	wantPut(t, g, frames(id(3), "012345678", 1)[0], kept, "")
	wantPut(t, g, frames(id(4), "0", 1)[0], lost, "")
	wantParts(t, g, 19, id(1), id(3))
}

func TestOneChunkForWhichThereIsNoRoom(t *testing.T) { // P13.1: it is lost, though it would be whole at once
	g := gather.New(4, 8, 10)
	wantPut(t, g, frames(id(1), "01234567", 4)[0], kept, "")
	wantPut(t, g, frames(id(2), "abc", 4)[0], lost, "")
	wantPut(t, g, frames(id(2), "ab", 4)[0], whole, "ab")
	wantParts(t, g, 8, id(1))
	g.Want(id(2))
	wantPut(t, g, frames(id(2), "abc", 4)[0], whole, "abc")
	wantParts(t, g, 0)
	wantCounts(t, g, 0, 0, 2, 1, 2)
}

// full has parts of 5, 3 and 4 bytes, of the ids 1 to 3, and two bytes left.
func full(t *testing.T, by int) *watched {
	t.Helper()
	w := watch(t, by, 14, 14)
	for i, p := range []string{"abcde", "fgh", "ijkl"} {
		w.put(frames(id(uint64(i+1)), p, by)[1])
	}
	wantParts(t, w.g, 12, id(1), id(2), id(3))
	return w
}

func TestPartsGoForAWantedOne(t *testing.T) { // P13.1, P13.2: none, one, several and all
	ids := []api.ID{id(1), id(2), id(3)}
	for size := 1; size <= 14; size++ {
		gone := 3
		switch {
		case size <= 2:
			gone = 0
		case size <= 7:
			gone = 1
		case size <= 10:
			gone = 2
		}
		left := []int{12, 7, 4, 0}[gone]
		for by := 1; by <= 2; by++ {
			w := full(t, by)
			w.want(id(9))
			wantParts(t, w.g, 12, ids...)
			l := frames(id(9), string(payload(size)), by)
			_, what := w.put(l[0])
			if len(l) == 1 {
				if what != whole {
					w.fail("made %d of the only chunk, want %d", what, whole)
				}
				wantParts(t, w.g, left, ids[gone:]...)
				wantCounts(t, w.g, 0, 0, gone, 3, 1)
				continue
			}
			wantParts(t, w.g, left+size, append(slices.Clone(ids[gone:]), id(9))...)
			wantCounts(t, w.g, 0, 0, gone, 4, 0)
			wantWhole(w, l[1:], orders(rand.New(rand.NewSource(1)), len(l)-1)[0], payload(size))
			wantParts(t, w.g, left, ids[gone:]...)
			wantCounts(t, w.g, 0, 0, gone)
		}
	}
}

func TestTheFirstBegunGoesFirst(t *testing.T) { // P13.1: whatever its id, its size and how much of it came
	for _, order := range permutations(4) {
		w := watch(t, 1, 9, 14)
		for _, i := range order {
			l := frames(id(uint64(10-i)), string(payload(i+2)), 1)
			for _, f := range l[1:] {
				w.put(f)
			}
		}
		wantParts(t, w.g, 14, w.parts[0].id, w.parts[1].id, w.parts[2].id, w.parts[3].id)
		second, last := w.parts[1].id, w.parts[3].id
		w.want(id(99))
		w.put(frames(id(99), "ab", 1)[0])
		if l := w.g.IDs(); len(l) != 4 || l[0] != second || l[2] != last || l[3] != id(99) {
			w.fail("IDs = %v", l)
		}
		wantCounts(t, w.g, 0, 0, 1)
	}
}

func TestAPartThatIsBegunAgainIsLast(t *testing.T) { // P13.1
	w := full(t, 2)
	w.drop(id(1))
	w.put(frames(id(1), "abcde", 2)[0])
	wantParts(t, w.g, 12, id(2), id(3), id(1))
	w.want(id(9))
	w.put(frames(id(9), "123", 2)[0])
	wantParts(t, w.g, 12, id(3), id(1), id(9))
}

func TestAChunkOfAPartDoesNotMoveIt(t *testing.T) { // P13.1: it stands where it was begun
	w := full(t, 1)
	w.put(frames(id(1), "abcde", 1)[0])
	w.put(frames(id(1), "abcde", 1)[0])
	w.put(frames(id(2), "fgh", 1)[0])
	wantParts(t, w.g, 12, id(1), id(2), id(3))
	w.want(id(9))
	w.put(frames(id(9), "123", 1)[0])
	wantParts(t, w.g, 10, id(2), id(3), id(9))
}

func TestAWantedIDThatHasAPart(t *testing.T) { // P13.1: nothing goes, not of a part that fills the room either
	for n := uint64(1); n <= 3; n++ {
		w := full(t, 1)
		w.put(frames(id(4), "xy", 1)[0])
		w.want(id(n))
		p := []string{"abcde", "fgh", "ijkl"}[n-1]
		l := frames(id(n), p, 1)
		w.put(l[1])
		w.put(l[0])
		wantParts(t, w.g, 14, id(1), id(2), id(3), id(4))
		for _, f := range l[2:] {
			w.put(f)
		}
		wantParts(t, w.g, 14-len(p), slices.DeleteFunc([]api.ID{id(1), id(2), id(3), id(4)}, func(x api.ID) bool { return x == id(n) })...)
		wantCounts(t, w.g, 0, 1, 0, len(p)+2, 1)
	}
}

func TestOnlyTheLastOneIsWanted(t *testing.T) { // P13.1: an id that was wanted before is as any other
	w := full(t, 1)
	w.want(id(8))
	w.want(id(9))
	wantPut(t, w.g, frames(id(8), "123", 1)[0], lost, "")
	wantPut(t, w.g, frames(api.ID{From: 2, Seq: 9}, "123", 1)[0], lost, "")
	wantPut(t, w.g, frames(id(9), "456", 1)[0], kept, "")
	wantParts(t, w.g, 10, id(2), id(3), id(9))
	w.g.Want(id(8))
	wantPut(t, w.g, frames(id(7), "12345", 1)[0], lost, "")
	wantPut(t, w.g, frames(id(8), "12345678", 1)[0], kept, "")
	wantParts(t, w.g, 11, id(9), id(8))
	wantCounts(t, w.g, 0, 0, 6, 5, 0)
}

func TestAPartThatWasWantedGoesAsOthers(t *testing.T) { // P13.1
	g := gather.New(1, 4, 4)
	g.Want(id(1))
	wantPut(t, g, frames(id(1), "abcd", 1)[0], kept, "")
	wantPut(t, g, frames(id(2), "efgh", 1)[0], lost, "")
	g.Want(id(2))
	wantPut(t, g, frames(id(2), "efgh", 1)[0], kept, "")
	wantParts(t, g, 4, id(2))
	wantPut(t, g, frames(id(1), "abcd", 1)[1], lost, "")
	wantCounts(t, g, 0, 0, 3, 2, 0)
}

func TestWantedFromNowOn(t *testing.T) { // P13.1: also when its part went, was whole, was dropped
	w := watch(t, 1, 4, 4)
	other := func(n uint64) {
		w.put(frames(id(n), "abc", 1)[2])
		wantParts(t, w.g, 3, id(n))
	}
	l := frames(id(9), "1234", 1)
	other(1)
	w.want(id(9))
	w.put(l[3])
	wantParts(t, w.g, 4, id(9))
	w.drop(id(9))
	other(2)
	for _, f := range l {
		w.put(f)
	}
	wantParts(t, w.g, 0)
	other(3)
	w.put(l[0])
	wantParts(t, w.g, 4, id(9))
	wantCounts(t, w.g, 0, 0, 3, 8, 1)
}

func TestWantAloneChangesNothing(t *testing.T) { // P13.1: what may be seen of it is seen when a chunk comes
	w := full(t, 2)
	for _, x := range []api.ID{id(1), id(2), id(9), {}, {From: 64, Seq: 1}, {From: 255, Seq: math.MaxUint64}} {
		w.want(x)
		w.want(x)
		wantParts(t, w.g, 12, id(1), id(2), id(3))
		wantCounts(t, w.g, 0, 0, 0, 3, 0)
	}
}

func TestNoneIsWantedAtFirst(t *testing.T) { // P13.1: nor behind an id that may not be
	for _, x := range []api.ID{{}, {From: 63}, {From: 1, Seq: 1<<62 + 1}, {From: 64, Seq: 1}, {From: 255, Seq: math.MaxUint64}} {
		w := full(t, 2)
		w.put(api.Frame{Of: 1, Size: 1, Data: []byte("a")})
		w.put(api.Frame{Of: 2, Size: 3, Data: []byte("ab")})
		w.put(frames(api.ID{Seq: 1}, "abc", 2)[0])
		wantParts(t, w.g, 12, id(1), id(2), id(3))
		wantCounts(t, w.g, 2, 0, 1)
		w.want(id(9))
		w.want(x)
		w.put(frames(id(9), "abc", 2)[0])
		w.put(frames(x, "abc", 2)[0])
		w.put(frames(x, "a", 2)[0])
		wantParts(t, w.g, 12, id(1), id(2), id(3))
		wantCounts(t, w.g, 4, 0, 2)
	}
}

func TestNothingGoesForWhatCanNotBe(t *testing.T) { // P13.1: though its id is wanted
	w := full(t, 2)
	w.want(id(9))
	right := frames(id(9), "0123456", 2)[1]
	for _, change := range []func(f *api.Frame){
		func(f *api.Frame) { f.At = 4 },
		func(f *api.Frame) { f.At = 3 },
		func(f *api.Frame) { f.Of = 3 },
		func(f *api.Frame) { f.Of = 5 },
		func(f *api.Frame) { f.Size = 9 },
		func(f *api.Frame) { f.Size = 15; f.Of = 8 },
		func(f *api.Frame) { f.Data = f.Data[:1] },
		func(f *api.Frame) { f.Data = []byte("abc") },
	} {
		f := right
		change(&f)
		w.put(f)
		wantParts(t, w.g, 12, id(1), id(2), id(3))
	}
	wantCounts(t, w.g, 8, 0, 0, 3, 0)
	w.put(right)
	wantParts(t, w.g, 14, id(2), id(3), id(9))
}

func TestAChunkThatIsThereAlready(t *testing.T) { // P13.1, P13.2: the first one stays, whatever comes again
	w := watch(t, 2, 5, 5)
	l := frames(id(1), "abcde", 2)
	other := frames(id(1), "vwxyz", 2)
	w.put(l[0])
	w.put(l[2])
	for range 3 {
		for _, f := range []api.Frame{l[0], other[0], l[2], other[2]} {
			if p, what := w.put(f); what != old || len(p) > 0 {
				w.fail("made %d of a chunk that is there, want %d", what, old)
			}
		}
	}
	wrong := l[0]
	wrong.Data = []byte("a")
	w.put(wrong)
	wantWhole(w, l, []int{1}, []byte("abcde"))
	wantCounts(t, w.g, 1, 12, 0, 2, 1)
}

func TestAChunkOfAPartThatWent(t *testing.T) { // P13.1, P13.2: it begins another one, which has none of what came before
	w := watch(t, 1, 3, 3)
	l, other := frames(id(1), "abc", 1), frames(id(1), "xyz", 1)
	w.put(l[0])
	w.put(l[1])
	w.drop(id(1))
	wantWhole(w, other, []int{0, 2, 1}, []byte("xyz")) // it was dropped
	wantWhole(w, l, []int{1, 2, 0}, []byte("abc"))     // it was whole
	w.put(l[2])
	w.want(id(2))
	w.put(frames(id(2), "123", 1)[0]) // it was lost
	wantParts(t, w.g, 3, id(2))
	if _, what := w.put(l[2]); what != lost {
		t.Errorf("made %d of a chunk of a part that went, want %d", what, lost)
	}
	w.drop(id(2))
	wantWhole(w, other, []int{2, 1, 0}, []byte("xyz"))
	wantWhole(w, frames(id(1), "uv", 1), []int{1, 0}, []byte("uv")) // of another Size
	wantCounts(t, w.g, 0, 0, 2, 11, 4)
}

func TestAnotherSizeThanItsParts(t *testing.T) { // P13.1
	for by := 1; by < 5; by++ {
		for size := by + 1; size < 12; size++ {
			for other := range 12 {
				w := watch(t, by, 12, 30)
				l := frames(id(1), string(payload(size)), by)
				w.put(l[0])
				for _, f := range frames(id(1), string(payload(other)), by) {
					_, what := w.put(f)
					if other != size && what != bad {
						w.fail("made %d of a chunk of another Size, want %d", what, bad)
					}
				}
				if other != size {
					wantParts(t, w.g, size, id(1))
					wantFirst(t, w.g, id(1), 1)
					w.put(frames(id(2), string(payload(other)), by)[0])
					w.put(frames(api.ID{From: 2, Seq: 1}, string(payload(other)), by)[0])
				}
			}
		}
	}
}

func TestAnotherSizeAndNoRoom(t *testing.T) { // P13.1: a part is there, so that nobody asks for room
	w := full(t, 2)
	w.put(frames(id(4), "xy", 1)[0])
	for range 2 {
		if _, what := w.put(frames(id(2), "0123456789", 2)[0]); what != bad {
			t.Errorf("made %d of a chunk of another Size, want %d", what, bad)
		}
		w.want(id(2))
	}
	wantParts(t, w.g, 12, id(1), id(2), id(3))
}

func TestCount(t *testing.T) { // P13.1: of all that may be asked for
	g := gather.New(1, 2, 4)
	l := frames(id(1), "ab", 1)
	wantPut(t, g, l[1], kept, "")
	for range 300 {
		wantPut(t, g, api.Frame{}, bad, "")
	}
	for range 301 {
		wantPut(t, g, l[1], old, "")
	}
	wantPut(t, g, frames(id(2), "cd", 1)[0], kept, "")
	for range 302 {
		wantPut(t, g, frames(id(3), "ef", 1)[0], lost, "")
	}
	wantDrop(t, g, 1, id(2))
	for range 303 {
		wantPut(t, g, frames(id(4), "g", 1)[0], whole, "g")
	}
	wantCounts(t, g, 300, 301, 302, 2, 303)
	for what := range 256 {
		if (what == 0 || what > 5) && g.Count(uint8(what)) != 0 {
			t.Errorf("Count(%d) = %d, want 0", what, g.Count(uint8(what)))
		}
	}
}

func TestDrop(t *testing.T) { // P13.1: none, one, one twice, several in any order, and ids that have no part
	for _, c := range []struct {
		l    []api.ID
		want int
		rest []api.ID
	}{
		{nil, 0, []api.ID{id(1), id(2), id(3)}},
		{[]api.ID{}, 0, []api.ID{id(1), id(2), id(3)}},
		{[]api.ID{id(4)}, 0, []api.ID{id(1), id(2), id(3)}},
		{[]api.ID{{}, id(0), {From: 2, Seq: 1}, {From: 64, Seq: 1}, {From: 1, Seq: 1<<62 + 1}}, 0, []api.ID{id(1), id(2), id(3)}},
		{[]api.ID{id(1)}, 1, []api.ID{id(2), id(3)}},
		{[]api.ID{id(2)}, 1, []api.ID{id(1), id(3)}},
		{[]api.ID{id(3)}, 1, []api.ID{id(1), id(2)}},
		{[]api.ID{id(2), id(2)}, 1, []api.ID{id(1), id(3)}},
		{[]api.ID{id(3), id(9), id(1), id(3)}, 2, []api.ID{id(2)}},
		{[]api.ID{id(3), id(2), id(1)}, 3, nil},
		{[]api.ID{id(1), id(2), id(3), id(1), id(2), id(3), id(4)}, 3, nil},
	} {
		w := full(t, 1)
		used := 0
		for _, x := range c.rest {
			used += []int{5, 3, 4}[x.Seq-1]
		}
		wantDrop(t, w.g, c.want, c.l...)
		wantParts(t, w.g, used, c.rest...)
		wantDrop(t, w.g, 0, c.l...)
		wantParts(t, w.g, used, c.rest...)
		wantCounts(t, w.g, 0, 0, 0, 3, 0)
		full(t, 1).drop(c.l...)
	}
}

func TestNewBelowTheLeast(t *testing.T) { // P13.1: chunk counts as 1, most as 0, room as most
	for _, low := range []int{-1, -2, -64, -1 << 20, -1 << 32, least + 1, least} {
		for _, by := range []int{0, low} {
			w := watch(t, by, 3, 3)
			wantWhole(w, frames(id(1), "abc", 1), []int{2, 0, 1}, []byte("abc"))
			w.put(frames(id(1), "ab", 2)[0])
			wantCounts(t, w.g, 1)
		}
		w := watch(t, 2, low, low)
		wantWhole(w, frames(id(1), "", 2), []int{0}, nil)
		w.put(frames(id(1), "a", 2)[0])
		wantCounts(t, w.g, 1, 0, 0, 0, 1)
		w = watch(t, 2, low, 9)
		wantWhole(w, frames(id(1), "", 2), []int{0}, nil)
		w.put(frames(id(1), "a", 2)[0])
		wantCounts(t, w.g, 1, 0, 0, 0, 1)
		for _, room := range []int{low, 0, 4} {
			w = watch(t, 2, 5, room)
			w.put(frames(id(1), "abcde", 2)[0])
			wantParts(t, w.g, 5, id(1))
			w.put(frames(id(2), "a", 2)[0])
			wantCounts(t, w.g, 0, 0, 1, 1, 0)
		}
		w = watch(t, low, low, low)
		wantWhole(w, frames(id(1), "", 1), []int{0}, nil)
	}
}

func TestNewAboveTheGreatest(t *testing.T) { // P13.1: chunk counts as MaxChunk, most as MaxPayload
	if api.MaxPayload != mega || api.MaxChunk != sixty4 {
		t.Fatalf("MaxPayload, MaxChunk = %d, %d", api.MaxPayload, api.MaxChunk)
	}
	p, long := string(payload(sixty4+1)), string(payload(mega))
	for _, high := range []int{1, 2, sixty4, 1 << 32, greatest - mega - 1, greatest - mega} {
		g := gather.New(sixty4+high, sixty4+1, sixty4+1)
		l := frames(id(1), p, sixty4)
		wantPut(t, g, frames(id(1), p, sixty4+1)[0], bad, "")
		wantPut(t, g, l[1], kept, "")
		wantPut(t, g, l[0], whole, p)

		g = gather.New(sixty4, mega+high, 0)
		l = frames(id(2), long, sixty4)
		wantPut(t, g, api.Frame{ID: id(2), Of: 17, Size: mega + 1, Data: l[0].Data}, bad, "")
		wantPut(t, g, l[0], kept, "")
		wantPut(t, g, frames(id(3), "a", sixty4)[0], lost, "")
		wantParts(t, g, mega, id(2))

		g = gather.New(sixty4, mega+high, mega+2)
		wantPut(t, g, l[0], kept, "")
		wantPut(t, g, frames(id(3), "abc", sixty4)[0], lost, "")
		wantPut(t, g, frames(id(3), "ab", sixty4)[0], whole, "ab")
	}
	w := watch(t, greatest, greatest, greatest)
	w.put(frames(id(1), p, sixty4)[1])
	w.put(frames(id(2), p, sixty4)[1])
	wantWhole(w, frames(id(1), p, sixty4), []int{0}, []byte(p))
	wantParts(t, w.g, sixty4+1, id(2))
}

func TestTheGreatestRoom(t *testing.T) { // P13.1, P13.2: there always is some left
	for _, room := range []int{greatest, greatest - 1, 1 << 32, api.MaxGather} {
		g := gather.New(1, 2, room)
		for n := range uint64(300) {
			wantPut(t, g, frames(id(n+1), "ab", 1)[1], kept, "")
		}
		if l := g.IDs(); g.Used() != 600 || len(l) != 300 || l[0] != id(1) || l[299] != id(300) {
			t.Errorf("Used, IDs = %d, %v", g.Used(), l)
		}
		g.Want(id(301))
		wantPut(t, g, frames(id(301), "ab", 1)[1], kept, "")
		wantCounts(t, g, 0, 0, 0, 301, 0)
	}
}

func TestRoomAboveMaxGather(t *testing.T) { // P13.1: it counts as it is; the last chunks alone come, of a byte each
	defer debug.FreeOSMemory() // else what later tests leave behind would pile up, as much as stood here
	const parts, size = 1100, 15*sixty4 + 1
	g := gather.New(sixty4, size, (parts+1)*size-1)
	last := api.Frame{At: 15, Of: 16, Size: size, Data: []byte("a")}
	for n := range uint64(parts) {
		last.ID = id(n + 1)
		wantPut(t, g, last, kept, "")
	}
	last.ID = id(9999)
	wantPut(t, g, last, lost, "")
	if g.Used() != parts*size || g.Used() <= api.MaxGather {
		t.Errorf("Used = %d, want %d", g.Used(), parts*size)
	}
}

func TestManyPartsGo(t *testing.T) { // P13.1, P13.2
	g := gather.New(1, 1000, 1000)
	for n := range uint64(500) {
		wantPut(t, g, frames(id(n+1), "ab", 1)[n%2], kept, "")
	}
	g.Want(id(999))
	wantPut(t, g, frames(id(999), string(payload(995)), 1)[7], kept, "")
	wantParts(t, g, 999, id(499), id(500), id(999))
	wantCounts(t, g, 0, 0, 498, 501, 0)
}

func TestTheLongestPayload(t *testing.T) { // P13.1, P13.2: by chunks of many sizes, mixed, of two ids at a time
	dice := rand.New(rand.NewSource(134))
	for _, size := range []int{mega - 1, mega} {
		p := payload(size)
		q := slices.Clone(p)
		slices.Reverse(q)
		for _, by := range []int{300, 4095, 4096, 4097, 65535, 65536} {
			g := gather.New(by, size, 2*size)
			a, b := frames(id(1), string(p), by), frames(id(2), string(q), by)
			order := dice.Perm(len(a))
			for i, at := range order[1:] {
				what := kept
				if i == len(a)-1 {
					what = whole
				}
				wantPut(t, g, a[at], what, "")
				wantPut(t, g, b[len(b)-1-at], what, "")
			}
			wantParts(t, g, 2*size, id(1), id(2))
			wantFirst(t, g, id(1), order[0])
			wantFirst(t, g, id(2), len(b)-1-order[0])
			wantPut(t, g, b[len(b)-1-order[0]], whole, string(q))
			wantPut(t, g, a[order[0]], whole, string(p))
			wantParts(t, g, 0)
		}
	}
}

func TestAsManyChunksAsThereMayBe(t *testing.T) { // P13.1, P13.2: the longest payload, by one byte, backwards
	p := payload(mega)
	g := gather.New(1, mega, mega)
	for at := mega - 1; at > 0; at-- {
		f := api.Frame{ID: id(1), At: uint32(at), Of: mega, Size: mega, Data: p[at : at+1]}
		if got, what := g.Put(f); what != kept || len(got) > 0 {
			t.Fatalf("Put of the chunk %d = %.99q, %d", at, got, what)
		}
	}
	wantFirst(t, g, id(1), 0)
	wantParts(t, g, mega, id(1))
	wantPut(t, g, api.Frame{ID: id(1), Of: mega, Size: mega, Data: p[:1]}, whole, string(p))
	wantCounts(t, g, 0, 0, 0, mega-1, 1)
}

func TestIDsThatMayNotBe(t *testing.T) { // P13.1
	for _, x := range []api.ID{
		{}, {From: 1}, {From: 63}, {From: 64, Seq: 1}, {From: 65, Seq: 1}, {From: 128, Seq: 1}, {From: 255, Seq: 1}, {From: 64},
		{From: 1, Seq: 1<<62 + 1}, {From: 1, Seq: 1 << 63}, {From: 1, Seq: 1<<63 + 1}, {From: 1, Seq: math.MaxUint64}, {From: 255, Seq: math.MaxUint64},
	} {
		w := watch(t, 2, 5, 5)
		for _, p := range []string{"", "a", "abcd"} {
			w.put(frames(x, p, 2)[0])
			w.want(x)
			w.put(frames(x, p, 2)[0])
		}
		wantParts(t, w.g, 0)
		wantCounts(t, w.g, 6, 0, 0, 0, 0)
		wantFirst(t, w.g, x, 0)
		wantDrop(t, w.g, 0, x)
	}
	for _, x := range []api.ID{{Seq: 1}, {From: 63, Seq: 1}, {Seq: 1 << 62}, {From: 63, Seq: 1 << 62}} {
		wantWhole(watch(t, 2, 5, 5), frames(x, "abcd", 2), []int{1, 0}, []byte("abcd"))
	}
}

func TestFramesThatCanNotBeChunks(t *testing.T) { // P13.1: all small ones, at a gatherer without parts, and at one that has one
	for by := 1; by < 4; by++ {
		for at := range uint32(5) {
			for of := range uint32(5) {
				for size := range uint32(7) {
					for n := range 4 {
						f := api.Frame{ID: id(1), At: at, Of: of, Size: size, Data: make([]byte, n)}
						watch(t, by, 5, 9).put(f)
						w := watch(t, by, 5, 9)
						w.put(frames(id(1), "abcd", by)[0])
						w.put(f)
					}
				}
			}
		}
	}
}

func TestFramesThatCanNotBeWrittenOut(t *testing.T) { // P13.1
	g := gather.New(2, 6, 6)
	right := frames(id(1), "abcde", 2)[1]
	for _, f := range []api.Frame{
		{At: 3, Of: 3, Size: 5, Data: []byte("c")}, {At: 3, Of: 3, Size: 5}, {At: 1, Of: 2, Size: 5, Data: []byte("cd")},
		{At: 1, Of: 4, Size: 5, Data: []byte("cd")}, {At: 1, Of: 0, Size: 5, Data: []byte("cd")}, {At: 1, Of: 3, Size: 4, Data: []byte("cd")},
		{At: 1, Of: 4, Size: 7, Data: []byte("cd")}, {At: 1, Of: 3, Size: 5, Data: []byte("c")}, {At: 1, Of: 3, Size: 5, Data: []byte("cde")},
		{At: 1, Of: 3, Size: 5}, {At: 2, Of: 3, Size: 5, Data: []byte("ef")}, {At: 2, Of: 3, Size: 5}, {At: 0, Of: 1, Size: 5, Data: []byte("abcde")},
		{}, {Of: 1, Data: []byte("a")}, {Of: 1, Size: 1}, {At: 1, Of: 2, Size: 2}, {At: 1, Of: 1, Size: 1, Data: []byte("a")},
	} {
		f.ID = id(1)
		wantPut(t, g, f, bad, "")
		wantParts(t, g, 0)
	}
	wantPut(t, g, right, kept, "")
}

func TestGreatNumbersInFrames(t *testing.T) { // P13.1, P0.1
	great := []uint32{0, 1, 2, 16, 17, 1<<16 - 1, 1 << 16, 1<<20 - 1, 1 << 20, 1<<20 + 1, 1<<31 - 1, 1 << 31, 1<<31 + 1, math.MaxUint32 - 1, math.MaxUint32}
	small := watch(t, 2, 6, 9)
	small.put(frames(id(1), "abcd", 2)[0])
	for _, at := range great {
		for _, of := range great {
			for _, size := range great {
				for _, data := range [][]byte{nil, []byte("ab"), make([]byte, sixty4)} {
					f := api.Frame{ID: id(1), At: at, Of: of, Size: size, Data: data}
					small.put(f)
					l, want := lengths(int(size), sixty4), bad
					if int(of) == len(l) && int(at) < len(l) && len(data) == l[at] {
						want = kept
						if len(l) == 1 {
							want = whole
						}
					}
					if _, what := gather.New(greatest, greatest, greatest).Put(f); what != want {
						t.Errorf("Put(%d of %d, size %d, %d bytes) = %d, want %d", at, of, size, len(data), what, want)
					}
				}
			}
		}
	}
}

func TestOtherFieldsAreNotLookedAt(t *testing.T) { // P13.1: whatever its Kind, and whoever it is from
	for kind := range 256 {
		g := gather.New(2, 3, 3)
		l := frames(id(1), "abc", 2)
		for i := range l {
			l[i].Head = api.Head{Kind: uint8(kind), From: uint8(kind + 7), To: uint8(2 * kind)}
			l[i].Seq, l[i].Inst, l[i].Round = uint64(kind), math.MaxUint64, uint64(i)
			l[i].Est, l[i].Aux = []api.Run{{From: 255}}, make([]api.Run, kind)
			l[i].Done, l[i].Held = []uint64{math.MaxUint64}, make([]uint64, kind)
		}
		wantPut(t, g, l[1], kept, "")
		l[1].Head, l[1].Seq = api.Head{Kind: 5}, 9
		wantPut(t, g, l[1], old, "")
		wantPut(t, g, l[0], whole, "abc")
	}
}

func TestANilGatherer(t *testing.T) { // P13.1, P0.1
	var g *gather.Gather
	for range 2 {
		for _, f := range append(frames(id(1), "abcde", 2), api.Frame{}, api.Frame{ID: id(2), Of: 1}, frames(id(3), "a", 1)[0]) {
			wantPut(t, g, f, bad, "")
		}
		wantParts(t, g, 0)
		wantFirst(t, g, id(1), 0)
		wantFirst(t, g, api.ID{}, 0)
		wantDrop(t, g, 0)
		wantDrop(t, g, 0, id(1), id(1), api.ID{})
		for what := range 256 {
			if n := g.Count(uint8(what)); n != 0 {
				t.Errorf("Count(%d) = %d, want 0", what, n)
			}
		}
		g.Want(id(1))
		g.Want(api.ID{})
	}
}

func TestAskingChangesNothing(t *testing.T) { // P13.1
	w := full(t, 2)
	for range 5 {
		w.look()
	}
	w.want(id(9))
	w.look()
	w.put(frames(id(9), "123", 2)[0])
	wantParts(t, w.g, 10, id(2), id(3), id(9))
}

func TestWhatIsHandedInIsLeftAsItWas(t *testing.T) { // P0.4: and not kept, the room behind its end neither
	g := gather.New(2, 5, 9)
	room := []byte("abcde123")
	for _, at := range []int{2, 0, 1} {
		f := api.Frame{ID: id(1), At: uint32(at), Of: 3, Size: 5, Data: room[2*at : min(2*at+2, 5)], Done: []uint64{7}}
		before := fmt.Sprint(f, room)
		p, _ := g.Put(f)
		if fmt.Sprint(f, room) != before {
			t.Errorf("what is handed in is changed: %v, %q", f, room)
		}
		spoil(f.Data)
		if want := []string{"", "abcde", ""}[at]; string(p) != want {
			t.Errorf("Put = %q, want %q", p, want)
		}
		room = []byte("abcde123")
	}
	ids := []api.ID{id(4), id(2), id(2), id(1), id(3)}
	wantPut(t, g, frames(id(2), "abc", 2)[0], kept, "")
	wantDrop(t, g, 1, ids[:2]...)
	if !slices.Equal(ids, []api.ID{id(4), id(2), id(2), id(1), id(3)}) {
		t.Errorf("what is handed in is changed: %v", ids)
	}
}

func TestAnswersShareNothing(t *testing.T) { // P0.4: with what was handed in, with one another, and with what is kept
	for size := range 9 {
		for by := 1; by < 10; by++ {
			g := gather.New(by, 20, 40)
			other := frames(id(2), string(payload(20)), by)
			for _, f := range other[1:] {
				wantPut(t, g, f, kept, "")
			}
			p := string(payload(size))
			one, two := gathered(t, g, p, by), gathered(t, g, p, by)
			spoil(one)
			if string(two) != p {
				t.Errorf("of %d bytes by %d: two answers share memory", size, by)
			}
			spoil(two)
			gathered(t, g, p, by)
			wantPut(t, g, other[0], whole, string(payload(20)))
		}
	}
}

// gathered is a payload that is put together of its chunks, which are as they were behind it, whoever writes into it.
func gathered(t *testing.T, g *gather.Gather, p string, by int) []byte {
	t.Helper()
	l := frames(id(1), p, by)
	var got []byte
	for _, f := range l {
		got, _ = g.Put(f)
	}
	if string(got) != p {
		t.Errorf("of %d bytes by %d: %q, want %q", len(p), by, got, p)
	}
	told := bytes.Clone(got)
	spoil(got)
	if fmt.Sprint(l) != fmt.Sprint(frames(id(1), p, by)) {
		t.Errorf("of %d bytes by %d: an answer shares memory with what was handed in", len(p), by)
	}
	copy(got, told)
	return got
}

func TestIDsAreNewMemory(t *testing.T) { // P0.4
	w := full(t, 1)
	one, two := w.g.IDs(), w.g.IDs()
	for i := range one[:cap(one)] {
		one[:cap(one)][i] = id(5)
	}
	if want := []api.ID{id(1), id(2), id(3)}; !slices.Equal(two, want) || !slices.Equal(w.g.IDs(), want) {
		t.Errorf("IDs = %v, %v", two, w.g.IDs())
	}
	w.g.Drop(id(1))
	if !slices.Equal(two, []api.ID{id(1), id(2), id(3)}) {
		t.Errorf("what was answered is changed: %v", two)
	}
}

func TestGatherersShareNothing(t *testing.T) { // P0.4, P0.6
	a, b := full(t, 1), full(t, 1)
	a.want(id(9))
	a.put(frames(id(9), "0123456789", 1)[0])
	b.look()
	b.put(frames(id(9), "0123456789", 1)[0])
	b.drop(id(2))
	a.look()
	wantWhole(b, frames(id(1), "abcde", 1), []int{4, 0, 2, 3}, []byte("abcde"))
	a.look()
	wantParts(t, b.g, 4, id(3))
	wantParts(t, a.g, 14, id(3), id(9))
}

func TestSmallRows(t *testing.T) { // P13.1, P13.2: all rows of four calls of these
	a, b, c := frames(id(1), "ab", 1), frames(id(2), "cde", 1), frames(id(3), "f", 1)
	calls := []func(w *watched){
		func(w *watched) { w.put(a[0]) },
		func(w *watched) { w.put(a[1]) },
		func(w *watched) { w.put(b[1]) },
		func(w *watched) { w.put(b[2]) },
		func(w *watched) { w.put(c[0]) },
		func(w *watched) { w.put(frames(id(1), "abc", 1)[0]) },
		func(w *watched) { w.want(id(1)) },
		func(w *watched) { w.want(id(2)) },
		func(w *watched) { w.drop(id(1)) },
		func(w *watched) { w.drop(id(3), id(2)) },
	}
	n := len(calls)
	for i := range n * n * n * n {
		for _, room := range []int{3, 5} {
			w := watch(t, 1, 3, room)
			for rest, j := i, 0; j < 4; rest, j = rest/n, j+1 {
				calls[rest%n](w)
			}
		}
	}
}

// someCall lets a chunk come, mostly, of few ids and sizes; sometimes one that can't be.
func someCall(dice *rand.Rand, w *watched) {
	x := api.ID{From: uint8(dice.Intn(2)), Seq: uint64(dice.Intn(40)+7) / 8}
	switch dice.Intn(24) {
	case 0:
		w.want(x)
	case 1:
		w.drop(x)
	case 2:
		w.drop(x, api.ID{From: 1, Seq: uint64(dice.Intn(5))}, x)
	default:
		size := (int(x.Seq)*7 + int(x.From)*3 + 1) % 17
		if dice.Intn(20) == 0 {
			size = dice.Intn(20)
		}
		l := frames(x, string(payload(size)), w.chunk)
		f := l[dice.Intn(len(l))]
		switch dice.Intn(60) {
		case 0:
			f.At += uint32(dice.Intn(3))
		case 1:
			f.Of += uint32(dice.Intn(3)) - 1
		case 2:
			f.Data = f.Data[:dice.Intn(len(f.Data)+1)]
		case 3:
			f.ID.From += uint8(62 + dice.Intn(4))
		}
		w.put(f)
	}
}

func TestRandomRows(t *testing.T) { // P13.1, P13.2
	dice := rand.New(rand.NewSource(135))
	made := [6]int{}
	for by := 1; by < 8; by++ {
		for _, room := range []int{0, 20, 30, 45, 200} {
			w := watch(t, by, 16, room)
			for range 300 {
				someCall(dice, w)
			}
			for what := range made {
				made[what] += w.made[what]
			}
		}
	}
	if slices.Min(made[1:]) < 100 {
		t.Errorf("too few of a kind came: %d", made)
	}
}

func TestAnswersHangOnTheRowOfCallsAlone(t *testing.T) { // P0.6
	var want []string
	for range 3 {
		dice := rand.New(rand.NewSource(136))
		w := watch(t, 3, 16, 40)
		var got []string
		for range 200 {
			someCall(dice, w)
			got = append(got, fmt.Sprint(w.g.Used(), w.g.IDs(), w.g.Count(lost), w.g.First(id(2))))
		}
		if want != nil && !slices.Equal(got, want) {
			t.Errorf("one row of calls, two gatherers: %q, %q", got, want)
		}
		want = got
	}
}

// FuzzRow reads chunk, most and room, and calls of bytes: what is called, the id, and which chunk of how long a payload comes.
func FuzzRow(f *testing.F) { // P13.1, P13.2
	f.Add([]byte{2, 4, 4, 0, 1, 1, 4, 0, 1, 0, 4})
	f.Add([]byte{1, 6, 8, 0, 1, 2, 5, 0, 2, 0, 3, 5, 3, 0, 0, 0, 3, 0, 6, 0, 3, 9, 9})
	f.Add([]byte{3, 9, 20, 0, 65, 0, 7, 6, 65, 0, 0, 7, 65, 66, 67, 4, 1, 2, 9})
	f.Fuzz(func(t *testing.T, b []byte) {
		if len(b) < 3 {
			return
		}
		w := watch(t, int(b[0])-2, int(b[1])-2, int(b[2])-2)
		for b = b[3:]; len(b) >= 4 && len(w.calls) < 60; b = b[4:] {
			x := api.ID{From: b[1] / 64, Seq: uint64(b[1] % 64)}
			switch b[0] % 8 {
			case 5:
				w.want(x)
			case 6:
				w.drop(x, api.ID{From: b[2] / 64, Seq: uint64(b[2] % 64)})
			case 7:
				w.put(api.Frame{ID: x, At: uint32(b[2] % 16), Of: uint32(b[2] / 16), Size: uint32(b[3] / 8), Data: make([]byte, b[3]%8)})
			default:
				l := frames(x, string(payload(int(b[3]))), w.chunk)
				w.put(l[int(b[2])%len(l)])
			}
		}
	})
}
