package bits_test

import (
	"fmt"
	"math"
	"math/rand"
	"slices"
	"strings"
	"testing"

	"unison/api"
	"unison/bits"
)

const (
	least    = math.MinInt
	greatest = math.MaxInt
)

// odd are numbers that are no places of any set, by which sums and products pass a word.
var odd = []int{
	least, least + 1, least + 63, least + 64, -1 << 62, -1 << 32, -1 << 31, -1 << 20, -129, -128, -65, -64, -63, -2, -1,
	1 << 20, 1<<20 + 1, 1<<20 + 63, 1<<20 + 64, 1<<31 - 1, 1 << 31, 1 << 32, 1<<32 + 1, 1 << 38, 1 << 62, 1<<62 + 1,
	greatest - 64, greatest - 63, greatest - 1, greatest,
}

// sizes are numbers of places around those at which a byte or a word ends.
var sizes = []int{0, 1, 2, 3, 7, 8, 9, 31, 32, 33, 62, 63, 64, 65, 66, 127, 128, 129, 130, 191, 192, 193, 200}

// upto are all numbers from 0 on, below one.
func upto(n int) []int {
	l := make([]int, n)
	for i := range l {
		l[i] = i
	}
	return l
}

// watched is a set, and beside it what the chapter says of it: of each place whether it is
// in it. Each call is held against that, and the set is looked at behind it. What is handed
// in, and what is answered, is written into at once.
type watched struct {
	t     *testing.T
	set   *bits.Set
	in    []bool
	calls []string
}

func watch(t *testing.T, n int) *watched {
	t.Helper()
	size := n
	if n < 0 {
		size = 0
	}
	if n > 1048576 {
		size = 1048576
	}
	w := &watched{t: t, set: bits.New(n), in: make([]bool, size)}
	w.called("New(%d)", n)
	w.look()
	return w
}

func (w *watched) called(format string, l ...any) {
	w.calls = append(w.calls, fmt.Sprintf(format, l...))
}

func (w *watched) fail(format string, l ...any) {
	w.t.Helper()
	row := strings.Join(w.calls[max(0, len(w.calls)-20):], ", ")
	w.t.Fatalf("%.2000s: %s", row, fmt.Sprintf(format, l...))
}

func (w *watched) wantCount(name string, got, want int) {
	w.t.Helper()
	if got != want {
		w.fail("%s = %d, want %d", name, got, want)
	}
}

func (w *watched) size() int { return len(w.in) }

// places are those that are in the set, or those that aren't, rising.
func (w *watched) places(in bool) []int {
	var l []int
	for i, x := range w.in {
		if x == in {
			l = append(l, i)
		}
	}
	return l
}

// missing tells what is missing of all places, by leaving out those ahead and those that are too many.
func (w *watched) missing(from, most int) []int {
	var l []int
	for _, i := range w.places(false) {
		if i >= from && most > len(l) {
			l = append(l, i)
		}
	}
	return l
}

// put puts places in, in memory that has room behind its end and is written into at once.
func (w *watched) put(l ...int) {
	w.t.Helper()
	w.called("Put(%d)", l)
	room := append(append(make([]int, 0, len(l)+3), l...), 0, 1, len(w.in)-1)
	kept := slices.Clone(room)
	got, want := w.set.Put(room[:len(l)]...), 0
	if !slices.Equal(room, kept) {
		w.fail("what is handed in is changed: %d, want %d", room, kept)
	}
	for i := range room {
		room[i] = i
	}
	for _, i := range l {
		if i >= 0 && i < len(w.in) && !w.in[i] {
			w.in[i] = true
			want++
		}
	}
	w.wantCount("Put", got, want)
	w.look()
}

// ask asks what is missing, and writes into the answer, and into the room behind its end.
func (w *watched) ask(from, most int) {
	w.t.Helper()
	for range 2 {
		got, want := w.set.Missing(from, most), w.missing(from, most)
		if !slices.Equal(got, want) {
			w.fail("Missing(%d, %d) = %d, want %d", from, most, got, want)
		}
		got = got[:cap(got)]
		for i := range got {
			got[i] = 5555 - i
		}
	}
}

// look looks at all that a set tells; at all places of a small one, and at some of a great one.
func (w *watched) look() {
	w.t.Helper()
	in, out := w.places(true), w.places(false)
	w.wantCount("Size", w.set.Size(), len(w.in))
	w.wantCount("Count", w.set.Count(), len(in))
	if got, want := w.set.Full(), len(out) == 0; got != want {
		w.fail("Full = %v, want %v", got, want)
	}
	for i := -66; i < len(w.in)+66; i++ {
		w.lookAt(i)
	}
	for _, i := range odd {
		w.lookAt(i)
	}
	w.lookAtMissing(out)
}

func (w *watched) lookAt(i int) {
	w.t.Helper()
	if got, want := w.set.Has(i), i >= 0 && i < len(w.in) && w.in[i]; got != want {
		w.fail("Has(%d) = %v, want %v", i, got, want)
	}
}

func (w *watched) lookAtMissing(out []int) {
	w.t.Helper()
	last := len(w.in) - 1
	for _, from := range []int{least, -1, 0, 1, last / 2, last - 1, last, last + 1, greatest} {
		for _, most := range []int{least, -1, 0, 1, 2, len(out) - 1, len(out), len(out) + 1, greatest} {
			w.ask(from, most)
		}
	}
}

// wantMissing holds an answer against one that is written out.
func wantMissing(t *testing.T, s *bits.Set, from, most int, want ...int) {
	t.Helper()
	if got := s.Missing(from, most); !slices.Equal(got, want) {
		t.Errorf("Missing(%d, %d) = %d, want %d", from, most, got, want)
	}
}

func wantPut(t *testing.T, s *bits.Set, want int, l ...int) {
	t.Helper()
	if got := s.Put(l...); got != want {
		t.Errorf("Put(%d) = %d, want %d", l, got, want)
	}
}

func wantSet(t *testing.T, s *bits.Set, size, count int, full bool) {
	t.Helper()
	if s.Size() != size || s.Count() != count || s.Full() != full {
		t.Errorf("Size, Count, Full = %d, %d, %v, want %d, %d, %v", s.Size(), s.Count(), s.Full(), size, count, full)
	}
}

func wantHas(t *testing.T, s *bits.Set, want bool, l ...int) {
	t.Helper()
	for _, i := range l {
		if got := s.Has(i); got != want {
			t.Errorf("Has(%d) = %v, want %v", i, got, want)
		}
	}
}

// wantParted holds what is missing and what is there against all places: each is one of the two, once.
func wantParted(t *testing.T, s *bits.Set) {
	t.Helper()
	all := s.Missing(0, greatest)
	if !slices.IsSorted(all) || len(all) != s.Size()-s.Count() {
		t.Fatalf("of %d places, of which %d are there, %d are missing: %d", s.Size(), s.Count(), len(all), all)
	}
	for i := range s.Size() {
		if s.Has(i) {
			all = append(all, i)
		}
	}
	slices.Sort(all)
	if !slices.Equal(all, upto(s.Size())) {
		t.Fatalf("missing or there are %d, want all below %d", all, s.Size())
	}
}

func TestExample(t *testing.T) { // P11.1, P11.2
	s := bits.New(3)
	wantPut(t, s, 1, 1)
	wantMissing(t, s, 0, 3, 0, 2)
	wantHas(t, s, true, 1)
	wantHas(t, s, false, 0, 2, -1, 3)
	wantSet(t, s, 3, 1, false)
	wantParted(t, s)
}

func TestARow(t *testing.T) { // P11.1, P11.2: with the answers written out
	s := bits.New(70)
	wantSet(t, s, 70, 0, false)
	wantMissing(t, s, 66, 9, 66, 67, 68, 69)
	wantPut(t, s, 2, 64, 63)
	wantSet(t, s, 70, 2, false)
	wantMissing(t, s, 61, 4, 61, 62, 65, 66)
	wantPut(t, s, 1, 63, 65, 64, 65)
	wantSet(t, s, 70, 3, false)
	wantMissing(t, s, 63, 2, 66, 67)
	wantPut(t, s, 0)
	wantPut(t, s, 0, 65)
	wantPut(t, s, 0, -1, 70, 71)
	wantPut(t, s, 5, 69, 0, 68, 67, 66)
	wantSet(t, s, 70, 8, false)
	wantMissing(t, s, 62, 9, 62)
	wantMissing(t, s, 0, 3, 1, 2, 3)
	wantMissing(t, s, 63, 9)
	wantHas(t, s, true, 0, 63, 64, 65, 66, 67, 68, 69)
	wantHas(t, s, false, 1, 2, 61, 62, 70, 71, 127, 128, -1)
	wantPut(t, s, 62, upto(200)...)
	wantSet(t, s, 70, 70, true)
	wantMissing(t, s, 0, 9)
	wantPut(t, s, 0, upto(200)...)
	wantSet(t, s, 70, 70, true)
}

func TestNew(t *testing.T) { // P11.1: of all sizes, and around their bounds
	for _, n := range sizes {
		w := watch(t, n)
		wantSet(t, w.set, n, 0, n == 0)
		wantParted(t, w.set)
	}
	for _, n := range []int{-1, -2, -64, -65, -1 << 20, -1 << 32, least + 1, least} {
		s := bits.New(n)
		wantSet(t, s, 0, 0, true)
		wantHas(t, s, false, -1, 0, 1, n)
		wantPut(t, s, 0, -1, 0, 1, n)
		wantMissing(t, s, n, greatest)
		wantMissing(t, s, 0, 1)
		wantSet(t, s, 0, 0, true)
	}
}

func TestPutOfNone(t *testing.T) { // P11.1, P0.5: it changes nothing
	w := watch(t, 67)
	for _, i := range []int{0, 66, 3, 64} {
		for _, l := range [][]int{nil, {}, make([]int, 0, 4), upto(9)[3:3]} {
			wantPut(t, w.set, 0, l...)
			w.look()
		}
		w.put(i)
		w.put()
	}
	wantSet(t, w.set, 67, 4, false)
}

func TestOnePlace(t *testing.T) { // P11.1, P11.2: each, of sets of each size, put in twice
	for _, size := range sizes {
		for i := range size {
			s := bits.New(size)
			wantPut(t, s, 1, i)
			wantSet(t, s, size, 1, size == 1)
			rest := append(upto(i), upto(size)[i+1:]...)
			wantHas(t, s, true, i)
			wantHas(t, s, false, rest...)
			wantMissing(t, s, 0, size, rest...)
			wantPut(t, s, 0, i)
			wantSet(t, s, size, 1, size == 1)
			wantMissing(t, s, i, size, rest[i:]...)
			wantParted(t, s)
		}
	}
}

func TestOnePlaceTwiceInOneCall(t *testing.T) { // P11.1
	s := bits.New(130)
	wantPut(t, s, 1, 7, 7)
	wantSet(t, s, 130, 1, false)
	wantPut(t, s, 2, 7, 129, 0, 129, 7, 0, 0)
	wantSet(t, s, 130, 3, false)
	wantPut(t, s, 0, 0, 0, 129, 129, 7)
	wantSet(t, s, 130, 3, false)
	for _, size := range sizes {
		w := watch(t, size)
		w.put(0, size-1, 0, size-1)
		w.put(append(upto(size), upto(size)...)...)
		if !w.set.Full() {
			t.Errorf("a set of %d isn't full", size)
		}
	}
}

func TestTheFirstAndTheLastPlace(t *testing.T) { // P11.1, P11.2
	for _, size := range sizes[3:] {
		w := watch(t, size)
		w.put(0)
		wantMissing(t, w.set, 0, 1, 1)
		w.put(size - 1)
		wantMissing(t, w.set, size-2, 5, size-2)
		wantMissing(t, w.set, size-1, 5)
		w.put(0, size-1)
		wantSet(t, w.set, size, 2, false)
		wantMissing(t, w.set, 0, size, upto(size)[1:size-1]...)
		wantHas(t, w.set, true, 0, size-1)
		wantHas(t, w.set, false, -1, 1, size-2, size)
	}
}

func TestPlacesThatThereAreNot(t *testing.T) { // P11.1: they are left out, alone and among others
	for _, size := range sizes {
		w := watch(t, size)
		beyond := append([]int{size, size + 1, size + 2, size + 62, size + 63, size + 64, size + 65}, odd...)
		for _, i := range beyond {
			wantPut(t, w.set, 0, i)
			wantPut(t, w.set, 0, i, i)
			wantHas(t, w.set, false, i)
		}
		w.put(beyond...)
		wantSet(t, w.set, size, 0, size == 0)
		for i := range min(size, 70) {
			w.put(odd[i%len(odd)], i, beyond[i%len(beyond)])
		}
		w.put(append(append(beyond, upto(size)...), beyond...)...)
		w.put(beyond...)
		wantSet(t, w.set, size, size, true)
	}
}

func TestMissingFrom(t *testing.T) { // P11.2: from everywhere, at places that are in it and at those that aren't
	s := bits.New(133)
	s.Put(0, 1, 5, 63, 64, 65, 100, 127, 128, 132)
	for from, want := range map[int]int{
		least: 2, -65: 2, -1: 2, 0: 2, 1: 2, 2: 2, 3: 3, 4: 4, 5: 6, 6: 6, 62: 62, 63: 66, 64: 66, 65: 66, 66: 66,
		99: 99, 100: 101, 101: 101, 126: 126, 127: 129, 128: 129, 129: 129, 130: 130, 131: 131,
	} {
		wantMissing(t, s, from, 1, want)
	}
	for _, from := range append([]int{132, 133, 134, 191, 192, 193, 200}, odd[15:]...) {
		wantMissing(t, s, from, 1)
		wantMissing(t, s, from, greatest)
	}
	wantMissing(t, s, 124, 9, 124, 125, 126, 129, 130, 131)
	wantMissing(t, s, 100, 3, 101, 102, 103)
	wantSet(t, s, 133, 10, false)
}

func TestMissingAtMost(t *testing.T) { // P11.2: none, one, as many as lack, and more
	for _, c := range []struct {
		size int
		in   []int
		want []int
	}{
		{5, []int{1, 3}, []int{0, 2, 4}},
		{66, upto(64), []int{64, 65}},
		{64, upto(62), []int{62, 63}},
		{4, nil, []int{0, 1, 2, 3}},
		{129, upto(128), []int{128}},
		{65, upto(65), nil},
		{0, nil, nil},
	} {
		s := bits.New(c.size)
		s.Put(c.in...)
		for most := -2; most < len(c.want)+4; most++ {
			wantMissing(t, s, 0, most, c.want[:max(0, min(most, len(c.want)))]...)
		}
		for _, most := range []int{1 << 20, 1<<20 + 1, 1 << 32, 1 << 62, greatest - 1, greatest} {
			wantMissing(t, s, 0, most, c.want...)
			wantMissing(t, s, least, most, c.want...)
		}
		for _, most := range []int{-1, -64, -1 << 32, least + 1, least} {
			wantMissing(t, s, 0, most)
			wantMissing(t, s, -1, most)
		}
	}
}

func TestMissingOfNoneIsNone(t *testing.T) { // P0.5, P11.2
	full := bits.New(3)
	full.Put(0, 1, 2)
	var none *bits.Set
	for _, l := range [][]int{
		full.Missing(0, 9), bits.New(0).Missing(0, 9), bits.New(3).Missing(3, 9), bits.New(3).Missing(0, 0),
		bits.New(3).Missing(0, -1), none.Missing(0, 9),
	} {
		if len(l) != 0 {
			t.Errorf("missing are %d", l)
		}
	}
}

func TestEachFromAndMost(t *testing.T) { // P11.2: all of both, of small sets with all that may be in them
	for size := range 7 {
		for row := range 1 << size {
			w := watch(t, size)
			for i := range size {
				if row>>i&1 == 1 {
					w.put(i)
				}
			}
			for from := -2; from < size+3; from++ {
				for most := -2; most < size+3; most++ {
					w.ask(from, most)
				}
			}
			wantParted(t, w.set)
		}
	}
}

func TestAPieceBehindAnotherOne(t *testing.T) { // P11.2: asked for by a few at a time, all that are missing come, each once
	dice := rand.New(rand.NewSource(112))
	for _, size := range sizes {
		for _, most := range []int{1, 2, 3, 64, 1000} {
			w := watch(t, size)
			w.put(someOf(dice, size)...)
			var got []int
			for from := 0; ; from = got[len(got)-1] + 1 {
				l := w.set.Missing(from, most)
				if len(l) == 0 {
					break
				}
				if got = append(got, l...); len(got) > size {
					t.Fatalf("of %d places %d are missing", size, got)
				}
			}
			if !slices.Equal(got, w.places(false)) {
				t.Errorf("by %d, missing are %d, want %d", most, got, w.places(false))
			}
		}
	}
}

func TestFullAndOneThatLacksOne(t *testing.T) { // P11.1, P11.2: each one, of sets of each size
	for _, size := range sizes {
		full := bits.New(size)
		wantPut(t, full, size, upto(size)...)
		wantSet(t, full, size, size, true)
		wantMissing(t, full, 0, greatest)
		wantHas(t, full, true, upto(size)...)
		wantPut(t, full, 0, upto(size)...)
		wantPut(t, full, 0, size, -1)
		wantSet(t, full, size, size, true)
		for i := range size {
			s := bits.New(size)
			wantPut(t, s, size-1, append(upto(i), upto(size)[i+1:]...)...)
			wantSet(t, s, size, size-1, false)
			for _, from := range []int{-1, 0, i / 2, i} {
				wantMissing(t, s, from, 1, i)
				wantMissing(t, s, from, greatest, i)
			}
			wantMissing(t, s, i+1, greatest)
			wantPut(t, s, 1, i)
			wantSet(t, s, size, size, true)
			wantMissing(t, s, 0, greatest)
		}
	}
}

func TestGrowing(t *testing.T) { // P11.1, P11.2: it is full with the last one, not ahead of it
	for _, size := range []int{1, 2, 63, 64, 65, 129} {
		for _, places := range [][]int{upto(size), falling(size), rand.New(rand.NewSource(113)).Perm(size)} {
			s := bits.New(size)
			for n, i := range places {
				wantSet(t, s, size, n, false)
				wantHas(t, s, false, i)
				wantPut(t, s, 1, i)
				wantHas(t, s, true, places[:n+1]...)
				wantParted(t, s)
			}
			wantSet(t, s, size, size, true)
		}
	}
}

func falling(n int) []int {
	l := upto(n)
	slices.Reverse(l)
	return l
}

// someOf are about half of the places of a set, in some order.
func someOf(dice *rand.Rand, size int) []int { return dice.Perm(size)[:dice.Intn(size+1)] }

func TestInAnotherOrder(t *testing.T) { // P11.1, P11.2: the same places, together and one by one, twice and in all orders
	dice := rand.New(rand.NewSource(114))
	for _, size := range sizes {
		for range 5 {
			places := someOf(dice, size)
			one, two, three := watch(t, size), watch(t, size), bits.New(size)
			one.put(places...)
			slices.Sort(places)
			one.put(places...)
			slices.Reverse(places)
			fresh := 0
			for _, i := range places {
				fresh += two.set.Put(i)
				fresh += two.set.Put(i, i)
				two.in[i] = true
			}
			two.look()
			fresh += three.Put(append(slices.Clone(places), places...)...)
			if fresh != 2*len(places) {
				t.Errorf("put in were %d, want %d", fresh, 2*len(places))
			}
			for _, s := range []*bits.Set{one.set, two.set, three} {
				wantSet(t, s, size, len(places), len(places) == size)
				wantMissing(t, s, 0, greatest, one.places(false)...)
				wantParted(t, s)
			}
		}
	}
}

func TestSmallRows(t *testing.T) { // P11.1: all rows of five places from -1 to 4, put into a set of four by two calls
	for row := range 6 * 6 * 6 * 6 * 6 {
		l := make([]int, 5)
		for i := range l {
			l[i] = row%6 - 1
			row /= 6
		}
		for cut := range len(l) + 1 {
			s, in := bits.New(4), map[int]bool{}
			for _, part := range [][]int{l[:cut], l[cut:]} {
				ahead := len(in)
				for _, i := range part {
					if i >= 0 && i < 4 {
						in[i] = true
					}
				}
				if got := s.Put(part...); got != len(in)-ahead || s.Count() != len(in) || s.Full() != (len(in) == 4) {
					t.Fatalf("%d, cut at %d: Put = %d, want %d", l, cut, got, len(in)-ahead)
				}
			}
			for i := range 4 {
				if s.Has(i) != in[i] {
					t.Fatalf("%d, cut at %d: Has(%d) = %v", l, cut, i, s.Has(i))
				}
			}
		}
	}
}

func TestAskingChangesNothing(t *testing.T) { // P11.1
	w := watch(t, 66)
	w.put(0, 2, 64)
	for range 3 {
		w.look()
		wantSet(t, w.set, 66, 3, false)
	}
}

// great is a set of MaxParts places.
func great(t *testing.T, n int) *bits.Set {
	t.Helper()
	s := bits.New(n)
	wantSet(t, s, 1048576, 0, false)
	return s
}

func TestMaxParts(t *testing.T) { // P11.1, P11.2: of just so many, and of more, which count as that
	const last = 1048575
	if api.MaxParts != last+1 {
		t.Fatalf("MaxParts = %d", api.MaxParts)
	}
	wantSet(t, bits.New(last), last, 0, false)
	wantMissing(t, bits.New(last), last-2, 9, last-2, last-1)
	for _, n := range []int{1 << 20, 1<<20 + 1, 1<<20 + 64, 1 << 21, 1 << 31, 1 << 32, 1<<32 + 3, 1 << 62, greatest - 63, greatest - 1, greatest} {
		s := great(t, n)
		wantPut(t, s, 2, 0, last, last+1, n, last, -1)
		wantSet(t, s, last+1, 2, false)
		wantHas(t, s, true, 0, last)
		wantHas(t, s, false, 1, last-1, last+1, n, -1)
		wantMissing(t, s, -1, 2, 1, 2)
		wantMissing(t, s, last-2, 9, last-2, last-1)
		wantMissing(t, s, last, 9)
		wantMissing(t, s, last+1, 9)
		wantMissing(t, s, n, 9)
	}
	s := great(t, 1<<20)
	wantMissing(t, s, 0, greatest, upto(last+1)...)
	wantPut(t, s, last, upto(last)...)
	wantSet(t, s, last+1, last, false)
	wantMissing(t, s, 0, greatest, last)
	wantMissing(t, s, last, 1, last)
	wantPut(t, s, 1, append(upto(last+1), odd...)...)
	wantSet(t, s, last+1, last+1, true)
	wantMissing(t, s, 0, greatest)
	wantPut(t, s, 0, falling(last+1)...)
	wantHas(t, s, true, upto(last+1)...)
	wantParted(t, s)
}

func TestManyPlaces(t *testing.T) { // P11.1, P11.2: every third one of the greatest set, in some order
	s := great(t, 1<<20)
	var places, rest []int
	for i := range 1 << 20 {
		if i%3 == 1 {
			places = append(places, i)
		} else {
			rest = append(rest, i)
		}
	}
	dice := rand.New(rand.NewSource(115))
	dice.Shuffle(len(places), func(i, j int) { places[i], places[j] = places[j], places[i] })
	wantPut(t, s, len(places), places...)
	wantSet(t, s, 1<<20, len(places), false)
	wantMissing(t, s, 0, greatest, rest...)
	wantMissing(t, s, 0, len(rest)-1, rest[:len(rest)-1]...)
	wantMissing(t, s, 500000, 3, 500000, 500001, 500003)
	wantParted(t, s)
}

func TestANilSet(t *testing.T) { // P11.1, P0.1
	var s *bits.Set
	for range 2 {
		for _, l := range [][]int{nil, {}, {0}, {-1}, {1, 2, 0}, odd} {
			wantPut(t, s, 0, l...)
			wantSet(t, s, 0, 0, true)
			wantHas(t, s, false, l...)
			for _, from := range l {
				for _, most := range append([]int{0, 1, 9}, odd...) {
					wantMissing(t, s, from, most)
				}
			}
		}
	}
}

func TestOddNumbers(t *testing.T) { // P0.1: at sets of each size, empty and full
	for _, size := range sizes {
		w := watch(t, size)
		for range 2 {
			for _, from := range odd {
				for _, most := range append([]int{0, 1, 9}, odd...) {
					w.ask(from, most)
				}
			}
			w.put(odd...)
			w.put(upto(size)...)
		}
	}
}

func TestWhatIsHandedInIsLeftAsItWas(t *testing.T) { // P0.4
	room := []int{2, 64, 2, -1, 66, 0, 65, 7, 8, 9}
	l := room[:6]
	kept := slices.Clone(room)
	s := bits.New(66)
	wantPut(t, s, 3, l...)
	wantPut(t, s, 0, l...)
	if !slices.Equal(room, kept) {
		t.Errorf("what is handed in is changed: %d, want %d", room, kept)
	}
	for i := range room {
		room[i] = 30 + i
	}
	wantSet(t, s, 66, 3, false)
	wantHas(t, s, true, 0, 2, 64)
	wantHas(t, s, false, room...)
	wantPut(t, s, 10, room...)
}

func TestAnswersShareNothing(t *testing.T) { // P0.4
	s := bits.New(130)
	s.Put(0, 3, 64)
	a, b := s.Missing(0, 200), s.Missing(0, 200)
	kept := slices.Clone(b)
	for i := range a[:cap(a)] {
		a[:cap(a)][i] = -7
	}
	if !slices.Equal(b, kept) {
		t.Errorf("two answers share memory: %d", b)
	}
	wantMissing(t, s, 0, 200, kept...)
	wantSet(t, s, 130, 3, false)
	s.Put(1, 2)
	if !slices.Equal(b, kept) {
		t.Errorf("an answer changes with the set: %d", b)
	}
	short := s.Missing(0, 2)
	_ = append(short, 1, 2, 3)
	wantMissing(t, s, 0, 3, 4, 5, 6)
}

func TestSetsShareNothing(t *testing.T) { // P0.4, P0.6
	a, b := bits.New(70), bits.New(70)
	a.Put(1, 69)
	wantSet(t, b, 70, 0, false)
	b.Put(upto(70)...)
	wantSet(t, a, 70, 2, false)
	wantHas(t, a, false, 0, 2, 68)
	wantSet(t, bits.New(70), 70, 0, false)
	wantMissing(t, b, 0, 9)
	wantMissing(t, a, 67, 9, 67, 68)
}

// someCall puts places in, most of them such as there are.
func someCall(dice *rand.Rand, w *watched) {
	w.t.Helper()
	l := make([]int, dice.Intn(6))
	for i := range l {
		switch dice.Intn(8) {
		case 0:
			l[i] = odd[dice.Intn(len(odd))]
		case 1:
			l[i] = dice.Intn(w.size()+3) - 2
		default:
			l[i] = dice.Intn(max(1, w.size()))
		}
	}
	w.put(l...)
	w.ask(dice.Intn(w.size()+6)-3, dice.Intn(w.size()+6)-3)
}

func TestRandomRows(t *testing.T) { // P11.1, P11.2
	dice := rand.New(rand.NewSource(111))
	for _, size := range sizes {
		for range 2 {
			w := watch(t, size)
			for range min(80, 10+2*size) {
				someCall(dice, w)
			}
			wantParted(t, w.set)
		}
	}
}

func TestAnswersHangOnTheRowOfCallsAlone(t *testing.T) { // P0.6
	var want []string
	for range 3 {
		dice := rand.New(rand.NewSource(116))
		w := watch(t, 90)
		var got []string
		for range 60 {
			someCall(dice, w)
			got = append(got, fmt.Sprint(w.set.Count(), w.set.Full(), w.set.Missing(0, 90)))
		}
		if want != nil && !slices.Equal(got, want) {
			t.Errorf("one row of calls, two sets: %q, %q", got, want)
		}
		want = got
	}
}

// FuzzRow reads a size and calls of bytes: how many places are put in, and which.
func FuzzRow(f *testing.F) { // P11.1, P11.2
	f.Add([]byte{3, 1, 1})
	f.Add([]byte{130, 3, 0, 64, 129, 2, 64, 130, 1, 255})
	f.Add([]byte{0, 2, 0, 1, 0})
	f.Fuzz(func(t *testing.T, b []byte) {
		if len(b) == 0 {
			return
		}
		w := watch(t, int(b[0])-3)
		for b = b[1:]; len(b) > 0 && len(w.calls) < 50; {
			n := min(int(b[0]%8), len(b)-1)
			var l []int
			for _, x := range b[1 : n+1] {
				l = append(l, int(x)-2)
			}
			w.put(l...)
			w.ask(int(b[0])-9, n-1)
			b = b[n+1:]
		}
		wantParted(t, w.set)
	})
}
