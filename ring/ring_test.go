package ring_test

import (
	"fmt"
	"math"
	"math/rand"
	"slices"
	"testing"

	"unison/ring"
)

const (
	least    = math.MinInt
	greatest = math.MaxInt
)

// odd are numbers that are of no ring: those beside the ends of the greatest one, those of
// which some bits are a process, and those by which sums pass a word.
var odd = []int{
	least, least + 1, least + 3, least + 64, -1 << 62, -1<<32 + 1, -1 << 32, -1 << 31, -257, -256, -255, -128, -65, -64, -63,
	-4, -3, -2, -1, 64, 65, 66, 67, 127, 128, 129, 255, 256, 257, 1 << 16, 1<<31 - 1, 1 << 31, 1 << 32, 1<<32 + 1, 1<<32 + 3,
	1 << 62, 1<<62 + 1, greatest - 64, greatest - 63, greatest - 1, greatest,
}

// noSizes are numbers of processes of which there is no ring; 64 is the greatest one.
var noSizes = append([]int{0}, without(odd, 64)...)

// sizes are of rings: the least ones, those beside the ends of some bits, and the greatest ones.
var sizes = []int{1, 2, 3, 4, 5, 7, 8, 9, 31, 32, 33, 62, 63, 64}

// upto are all numbers from 0 on, below one.
func upto(n int) []int {
	l := make([]int, n)
	for i := range l {
		l[i] = i
	}
	return l
}

// without is a list of its own of those numbers that aren't in another one.
func without(l []int, out ...int) []int {
	var left []int
	for _, x := range l {
		found := false
		for _, y := range out {
			found = found || x == y
		}
		if !found {
			left = append(left, x)
		}
	}
	return left
}

func isOf(n, p int) bool { return n >= 1 && n <= 64 && p >= 0 && p <= n-1 }

// toldWay goes twice round, and takes what lies between me and me.
func toldWay(n, me int, skip []int) []int {
	if !isOf(n, me) {
		return nil
	}
	twice := append(upto(n), upto(n)...)
	return without(twice[me+1:me+n], skip...)
}

func toldNext(n, me int, skip []int) int {
	if !isOf(n, me) {
		return -1
	}
	return append(toldWay(n, me, skip), me)[0]
}

// toldSteps goes step by step, till it is there.
func toldSteps(n, from, to int) int {
	if !isOf(n, from) || !isOf(n, to) {
		return -1
	}
	steps := 0
	for p := from; p != to; steps++ {
		if p++; p == n {
			p = 0
		}
	}
	return steps
}

// wantAsTold holds Next and Way against what the chapter says. What is handed in has room
// behind its end; that, and what is answered, is written into, and it is asked again.
func wantAsTold(t *testing.T, n, me int, skip ...int) {
	t.Helper()
	next, way := toldNext(n, me, skip), toldWay(n, me, skip)
	for range 2 {
		room := append(slices.Clone(skip), 0, 1, me)
		before := slices.Clone(room)
		if got := ring.Next(n, me, room[:len(skip)]...); got != next {
			t.Fatalf("Next(%d, %d, %d) = %d, want %d", n, me, skip, got, next)
		}
		got := ring.Way(n, me, room[:len(skip)]...)
		if !slices.Equal(room, before) {
			t.Fatalf("of %d, behind %d: what is handed in is changed: %d, want %d", n, me, room, before)
		}
		for i := range room {
			room[i] = -7
		}
		if !slices.Equal(got, way) {
			t.Fatalf("Way(%d, %d, %d) = %d, want %d", n, me, skip, got, way)
		}
		got = got[:cap(got)]
		for i := range got {
			got[i] = -8
		}
		if slices.Contains(room, -8) {
			t.Fatalf("of %d, behind %d: what is answered shares memory with what was handed in", n, me)
		}
	}
}

func wantNext(t *testing.T, want, n, me int, skip ...int) {
	t.Helper()
	if got := ring.Next(n, me, skip...); got != want {
		t.Errorf("Next(%d, %d, %d) = %d, want %d", n, me, skip, got, want)
	}
}

func wantWay(t *testing.T, want []int, n, me int, skip ...int) {
	t.Helper()
	if got := ring.Way(n, me, skip...); !slices.Equal(got, want) {
		t.Errorf("Way(%d, %d, %d) = %d, want %d", n, me, skip, got, want)
	}
}

func wantSteps(t *testing.T, want, n, from, to int) {
	t.Helper()
	if got := ring.Steps(n, from, to); got != want {
		t.Errorf("Steps(%d, %d, %d) = %d, want %d", n, from, to, got, want)
	}
}

// wantNoRing holds that there is no such ring, or that me isn't of it.
func wantNoRing(t *testing.T, n, me int, skip ...int) {
	t.Helper()
	wantNext(t, -1, n, me, skip...)
	wantWay(t, nil, n, me, skip...)
}

// wantComeTo goes on by Next from each one that isn't skipped: within n steps all other such
// ones are come to, each once, and none else, and it is begun again where it began.
func wantComeTo(t *testing.T, n int, skip ...int) {
	t.Helper()
	in := without(upto(n), skip...)
	for _, from := range in {
		var came []int
		p := from
		for range n {
			p = ring.Next(n, p, skip...)
			came = append(came, p)
		}
		for _, to := range in {
			if to != from && !slices.Contains(came, to) {
				t.Fatalf("of %d, without %d, from %d on %d isn't come to: %d", n, skip, from, to, came)
			}
		}
		if first := came[:len(in)]; first[len(in)-1] != from || len(without(first, in...)) > 0 {
			t.Fatalf("of %d, without %d, from %d on come %d", n, skip, from, came)
		}
	}
}

// subset are those processes below n of which the bits of a row are set.
func subset(n, row int) []int {
	var l []int
	for p := range n {
		if row>>p&1 == 1 {
			l = append(l, p)
		}
	}
	return l
}

// someOf are numbers below n, in any order, some of them twice, and some that aren't of the ring.
func someOf(dice *rand.Rand, n int) []int {
	l := dice.Perm(n)[:dice.Intn(n+1)]
	for range dice.Intn(4) {
		l = append(l, dice.Intn(n), odd[dice.Intn(len(odd))])
	}
	dice.Shuffle(len(l), func(i, j int) { l[i], l[j] = l[j], l[i] })
	return l
}

func TestExample(t *testing.T) { // P15.1
	wantNext(t, 0, 4, 2, 3)
	wantWay(t, []int{0, 1}, 4, 2, 3)
	wantComeTo(t, 4, 3)
}

func TestNext(t *testing.T) { // P15.1: with the answers written out
	for _, c := range []struct {
		want, n, me int
		skip        []int
	}{
		{1, 5, 0, nil}, {2, 5, 1, nil}, {3, 5, 2, nil}, {4, 5, 3, nil}, {0, 5, 4, nil},
		{2, 5, 1, []int{1}}, {3, 5, 1, []int{2}}, {4, 5, 1, []int{3, 2}}, {0, 5, 1, []int{3, 2, 4}},
		{1, 5, 1, []int{0, 2, 3, 4}}, {1, 5, 1, []int{0, 1, 2, 3, 4}}, {2, 5, 1, []int{0, 1, 3, 4}},
		{1, 5, 4, []int{0}}, {3, 5, 4, []int{0, 1, 2}}, {2, 5, 3, []int{4, 0, 1}}, {0, 5, 4, []int{1, 2, 3}},
		{4, 5, 4, []int{3, 2, 1, 0}}, {0, 5, 0, []int{4, 3, 2, 1}}, {4, 5, 0, []int{3, 1, 2}},
	} {
		wantNext(t, c.want, c.n, c.me, c.skip...)
	}
}

func TestWay(t *testing.T) { // P15.1: with the answers written out
	for _, c := range []struct {
		want  []int
		n, me int
		skip  []int
	}{
		{[]int{1, 2, 3, 4}, 5, 0, nil}, {[]int{3, 4, 0, 1}, 5, 2, nil}, {[]int{0, 1, 2, 3}, 5, 4, nil},
		{[]int{3, 4, 0, 1}, 5, 2, []int{2}}, {[]int{4, 0, 1}, 5, 2, []int{3}}, {[]int{3, 4, 0}, 5, 2, []int{1}},
		{[]int{3, 0, 1}, 5, 2, []int{4}}, {[]int{3, 4, 1}, 5, 2, []int{0}}, {[]int{4, 1}, 5, 2, []int{0, 3}},
		{[]int{4, 1}, 5, 2, []int{3, 2, 0}}, {[]int{1}, 5, 2, []int{3, 4, 0}}, {[]int{3}, 5, 2, []int{0, 1, 4}},
		{nil, 5, 2, []int{0, 1, 3, 4}}, {nil, 5, 2, []int{4, 3, 2, 1, 0}}, {[]int{1, 2, 3}, 5, 4, []int{0}},
	} {
		wantWay(t, c.want, c.n, c.me, c.skip...)
	}
}

func TestSteps(t *testing.T) { // P15.1: with the answers written out
	for from, l := range [][]int{{0, 1, 2, 3, 4}, {4, 0, 1, 2, 3}, {3, 4, 0, 1, 2}, {2, 3, 4, 0, 1}, {1, 2, 3, 4, 0}} {
		for to, want := range l {
			wantSteps(t, want, 5, from, to)
		}
	}
}

func TestRingOfOne(t *testing.T) { // P15.1, P15.2
	for _, skip := range [][]int{nil, {}, {0}, {0, 0}, {1}, {-1}, {1, 0, -1}, odd} {
		wantNext(t, 0, 1, 0, skip...)
		wantWay(t, nil, 1, 0, skip...)
		wantComeTo(t, 1, skip...)
	}
	wantSteps(t, 0, 1, 0, 0)
	wantSteps(t, -1, 1, 0, 1)
	wantSteps(t, -1, 1, 1, 0)
	wantSteps(t, -1, 1, 1, 1)
	wantNoRing(t, 1, 1)
	wantNoRing(t, 1, -1)
}

func TestRingOfTwo(t *testing.T) { // P15.1, P15.2
	for me := range 2 {
		other := 1 - me
		for _, skip := range [][]int{nil, {me}, {me, me}, {2}, {-1, me, 3}} {
			wantNext(t, other, 2, me, skip...)
			wantWay(t, []int{other}, 2, me, skip...)
		}
		for _, skip := range [][]int{{other}, {other, other}, {me, other}, {other, 2, me, other}} {
			wantNext(t, me, 2, me, skip...)
			wantWay(t, nil, 2, me, skip...)
		}
		wantSteps(t, 0, 2, me, me)
		wantSteps(t, 1, 2, me, other)
		wantNoRing(t, 2, 2, me)
	}
	wantComeTo(t, 2)
	wantComeTo(t, 2, 0)
	wantComeTo(t, 2, 1)
}

func TestTheGreatestRing(t *testing.T) { // P15.1, P15.2
	wantNext(t, 0, 64, 63)
	wantNext(t, 63, 64, 62)
	wantNext(t, 0, 64, 62, 63)
	wantNext(t, 1, 64, 63, 0)
	wantNext(t, 63, 64, 0, upto(63)...)
	wantNext(t, 0, 64, 63, upto(64)[1:]...)
	wantNext(t, 63, 64, 63, upto(64)...)
	wantWay(t, upto(63), 64, 63)
	wantWay(t, upto(64)[1:], 64, 0)
	wantWay(t, append([]int{63}, upto(62)...), 64, 62)
	wantWay(t, []int{63, 0}, 64, 31, upto(63)[1:]...)
	wantWay(t, nil, 64, 31, upto(64)...)
	wantSteps(t, 63, 64, 0, 63)
	wantSteps(t, 1, 64, 63, 0)
	wantSteps(t, 63, 64, 63, 62)
	wantSteps(t, 0, 64, 63, 63)
	wantSteps(t, 32, 64, 48, 16)
	wantSteps(t, -1, 64, 0, 64)
	wantSteps(t, -1, 64, 64, 0)
	wantNoRing(t, 64, 64)
	wantNoRing(t, 65, 63)
	wantComeTo(t, 64)
	wantComeTo(t, 64, 0, 63)
	wantComeTo(t, 64, upto(63)[1:]...)
}

func TestRingsOfAllSizes(t *testing.T) { // P15.1: for each one, with none, some and many skipped
	for n := 1; n <= 64; n++ {
		for me := range n {
			all := upto(n)
			for _, skip := range [][]int{nil, {me}, {(me + 1) % n}, {n - 1}, {0}, all[:n/2], all[n/2:], without(all, me), all} {
				wantAsTold(t, n, me, skip...)
			}
		}
	}
}

func TestStepsOfAllSizes(t *testing.T) { // P15.1: from each one to each one, and to those that aren't of the ring
	for n := 1; n <= 64; n++ {
		for from := -2; from <= n+2; from++ {
			for to := -2; to <= n+2; to++ {
				wantSteps(t, toldSteps(n, from, to), n, from, to)
			}
		}
	}
}

func TestStepsToOneselfAndNextToIt(t *testing.T) { // P15.1: to the one behind it, and to the one ahead of it
	for n := 2; n <= 64; n++ {
		for p := range n {
			behind, ahead := p+1, p-1
			if p == n-1 {
				behind = 0
			}
			if p == 0 {
				ahead = n - 1
			}
			wantSteps(t, 0, n, p, p)
			wantSteps(t, 1, n, p, behind)
			wantSteps(t, n-1, n, p, ahead)
		}
	}
}

func TestStepsAreThoseOfTheWay(t *testing.T) { // P15.1: and there and back they are once round
	for _, n := range sizes {
		for me := range n {
			for i, p := range ring.Way(n, me) {
				wantSteps(t, i+1, n, me, p)
				wantSteps(t, n-i-1, n, p, me)
			}
		}
	}
}

func TestAllThatMayBeSkipped(t *testing.T) { // P15.1, P15.2: of small rings, behind each one
	for n := 1; n <= 7; n++ {
		for row := range 1 << n {
			skip := subset(n, row)
			wantComeTo(t, n, skip...)
			for me := range n {
				wantAsTold(t, n, me, skip...)
			}
		}
	}
}

func TestAllButOneOrTwoAreSkipped(t *testing.T) { // P15.1, P15.2
	for _, n := range sizes {
		for a := range n {
			for b := range n {
				skip := without(upto(n), a, b)
				wantComeTo(t, n, skip...)
				if a != b {
					wantNext(t, b, n, a, skip...)
					wantWay(t, []int{b}, n, a, skip...)
				} else {
					wantNext(t, a, n, a, skip...)
					wantWay(t, nil, n, a, skip...)
				}
			}
		}
	}
}

func TestAllOthersAndAllSkipped(t *testing.T) { // P15.1
	for _, n := range sizes {
		for me := range n {
			for _, skip := range [][]int{without(upto(n), me), upto(n), append(upto(n), upto(n)...), append(slices.Clone(odd), upto(n)...)} {
				wantNext(t, me, n, me, skip...)
				wantWay(t, nil, n, me, skip...)
			}
		}
	}
}

func TestMeIsSkipped(t *testing.T) { // P15.1: that changes nothing, wherever me stands
	dice := rand.New(rand.NewSource(151))
	for _, n := range sizes {
		for me := range n {
			skip := without(dice.Perm(n)[:dice.Intn(n)], me)
			next, way := ring.Next(n, me, skip...), ring.Way(n, me, skip...)
			for i := range len(skip) + 1 {
				with := slices.Insert(slices.Clone(skip), i, me)
				wantNext(t, next, n, me, with...)
				wantWay(t, way, n, me, with...)
			}
		}
	}
}

func TestSkippedTwiceAndInAnyOrder(t *testing.T) { // P15.1
	dice := rand.New(rand.NewSource(152))
	for _, n := range sizes {
		for me := range n {
			skip := dice.Perm(n)[:dice.Intn(n+1)]
			next, way := ring.Next(n, me, skip...), ring.Way(n, me, skip...)
			for range 5 {
				skip = append(skip, skip[:dice.Intn(len(skip)+1)]...)
				dice.Shuffle(len(skip), func(i, j int) { skip[i], skip[j] = skip[j], skip[i] })
				wantNext(t, next, n, me, skip...)
				wantWay(t, way, n, me, skip...)
				wantAsTold(t, n, me, skip...)
			}
		}
	}
}

func TestSkippedThatAreNotOfTheRing(t *testing.T) { // P15.1: they skip nobody, alone and among others
	for _, n := range sizes {
		beyond := append([]int{n, n + 1, n + 2, 2*n - 1, 2 * n, 2*n + 1, -n, -n - 1, -2 * n}, odd...)
		for me := range n {
			for _, x := range beyond {
				wantNext(t, (me+1)%n, n, me, x)
				wantWay(t, toldWay(n, me, nil), n, me, x, x)
			}
			wantAsTold(t, n, me, beyond...)
			wantAsTold(t, n, me, append(append(slices.Clone(beyond), (me+1)%n), beyond...)...)
			wantAsTold(t, n, me, append([]int{n / 2}, beyond...)...)
		}
		wantComeTo(t, n, beyond...)
		wantComeTo(t, n, append(slices.Clone(beyond), n-1)...)
	}
}

func TestSkipOfNone(t *testing.T) { // P15.1, P0.5
	for _, skip := range [][]int{nil, {}, make([]int, 0, 4), upto(9)[3:3]} {
		wantNext(t, 3, 5, 2, skip...)
		wantWay(t, []int{3, 4, 0, 1}, 5, 2, skip...)
		wantNoRing(t, 5, 5, skip...)
	}
}

func TestManyThatAreSkipped(t *testing.T) { // P15.1, P0.1: more than there are processes
	var many []int
	for i := range 5000 {
		many = append(many, i%31*2)
	}
	wantWay(t, []int{3, 62, 63, 1}, 64, 2, append(many, 5, 7, 9, 11, 13, 15, 17, 19, 21, 23, 25, 27, 29, 31,
		33, 35, 37, 39, 41, 43, 45, 47, 49, 51, 53, 55, 57, 59, 61)...)
	wantNext(t, 62, 64, 60, append(many, 61)...)
	wantComeTo(t, 64, many...)
}

func TestNoSuchRing(t *testing.T) { // P15.1: n below 1, and above MaxProcs, whoever is asked for
	for _, n := range noSizes {
		for _, me := range append([]int{0, 1, 2, 63, n - 1, n, n + 1}, odd...) {
			wantNoRing(t, n, me)
			wantNoRing(t, n, me, me)
			wantNoRing(t, n, me, 0, 1, n)
			for _, to := range []int{least, -1, 0, 1, 63, n - 1, n, me, me + 1, greatest} {
				wantSteps(t, -1, n, me, to)
				wantSteps(t, -1, n, to, me)
			}
		}
	}
}

func TestThatAreNotOfTheRing(t *testing.T) { // P15.1: also when they are to be skipped, and when all are
	for _, n := range sizes {
		for _, me := range append([]int{n, n + 1, 2*n - 1, 2 * n, -n}, odd...) {
			wantNoRing(t, n, me)
			wantNoRing(t, n, me, me)
			wantNoRing(t, n, me, 0, me, n-1, me)
			wantNoRing(t, n, me, upto(n)...)
			wantNoRing(t, n, me, append(upto(n), me)...)
			wantSteps(t, -1, n, me, me)
			for p := range n {
				wantSteps(t, -1, n, me, p)
				wantSteps(t, -1, n, p, me)
			}
		}
	}
}

func TestTheGreatestAndTheLeastNumbers(t *testing.T) { // P15.1, P0.1: at every place
	edges := []int{least, least + 1, -1, 0, 1, 2, 63, 64, 65, greatest - 1, greatest}
	for _, n := range edges {
		for _, a := range edges {
			for _, b := range edges {
				wantSteps(t, toldSteps(n, a, b), n, a, b)
				for _, c := range edges {
					wantAsTold(t, n, a, b, c)
				}
			}
		}
	}
}

func TestWhatIsHandedInIsNotChanged(t *testing.T) { // P0.4: nor the room behind its end
	room := []int{3, 0, 3, 9, 1, 2, 4}
	before := slices.Clone(room)
	for upto := range len(room) + 1 {
		for me := range 6 {
			ring.Next(5, me, room[:upto]...)
			ring.Way(5, me, room[:upto]...)
			if !slices.Equal(room, before) {
				t.Fatalf("behind %d, without %d: what is handed in is changed: %d", me, before[:upto], room)
			}
		}
	}
}

func TestAnswersShareNothing(t *testing.T) { // P0.4: with what was handed in, and with one another
	skip := []int{3, 0}
	one, two := ring.Way(5, 2, skip...), ring.Way(5, 2, skip...)
	skip[0], skip[1] = 4, 1
	if !slices.Equal(one, []int{4, 1}) {
		t.Errorf("what was handed in is kept: %d", one)
	}
	one = one[:cap(one)]
	for i := range one {
		one[i] = 77
	}
	if !slices.Equal(two, []int{4, 1}) || !slices.Equal(skip, []int{4, 1}) {
		t.Errorf("answers share memory: %d, %d", two, skip)
	}
	wantWay(t, []int{4, 1}, 5, 2, 3, 0)
	wantWay(t, []int{3, 4, 0, 1}, 5, 2)
}

func TestAnswersHangOnTheArgumentsAlone(t *testing.T) { // P0.6
	dice := rand.New(rand.NewSource(153))
	var want []string
	for range 3 {
		var got []string
		for _, i := range dice.Perm(200) {
			n, me, skip := i%16+1, i%13%(i%16+1), subset(16, i*331)
			answer := fmt.Sprint(i, ring.Next(n, me, skip...), ring.Way(n, me, skip...), ring.Steps(n, me, i%11))
			got = append(got, answer)
		}
		slices.Sort(got)
		if want != nil && !slices.Equal(got, want) {
			t.Errorf("in another order they are %q, were %q", got, want)
		}
		want = got
	}
}

func TestRandomRings(t *testing.T) { // P15.1, P15.2
	dice := rand.New(rand.NewSource(154))
	for range 3000 {
		n := 1 + dice.Intn(64)
		skip := someOf(dice, n)
		wantComeTo(t, n, skip...)
		wantAsTold(t, n, dice.Intn(n+2)-1, skip...)
	}
}

// FuzzRing reads n, me, another one, and those that are skipped, a byte each.
func FuzzRing(f *testing.F) { // P15.1, P15.2
	f.Add(4, 2, 3, []byte{3})
	f.Add(64, 63, 0, []byte{0, 1, 2, 200, 63, 63})
	f.Add(1, 0, 0, []byte{0})
	f.Add(0, 0, 0, []byte{})
	f.Add(65, 3, -1, []byte{4})
	f.Add(greatest, least, greatest, []byte{255})
	f.Fuzz(func(t *testing.T, n, me, to int, b []byte) {
		var skip []int
		for _, x := range b[:min(len(b), 200)] {
			skip = append(skip, int(x)-2)
		}
		for _, l := range [][]int{skip, append(skip, me), append(skip, to)} {
			wantAsTold(t, n, me, l...)
		}
		wantSteps(t, toldSteps(n, me, to), n, me, to)
		wantSteps(t, toldSteps(n, to, me), n, to, me)
		if n >= 1 && n <= 64 {
			wantComeTo(t, n, skip...)
		}
	})
}
