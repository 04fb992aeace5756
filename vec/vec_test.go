package vec_test

import (
	"encoding/binary"
	"math"
	"math/big"
	"math/rand"
	"slices"
	"testing"

	"unison/api"
	"unison/vec"
)

const (
	lastPlace = api.MaxProcs - 1
	huge      = math.MaxUint64
)

// edges are numbers at and beside the ends of 64 bits, of 63 and of 32, and ordinary ones.
func edges() []uint64 {
	return []uint64{0, 1, 2, 7, 1<<32 - 1, 1 << 32, api.MaxSeq, 1<<63 - 1, 1 << 63, 1<<63 + 1, huge - 1, huge}
}

// places are those at and beside the ends that the chapter names, and wrong ones.
func places() []int {
	return []int{math.MinInt, math.MinInt32, -api.MaxProcs, -2, -1, 0, 1, 2, 3, lastPlace - 1, lastPlace, api.MaxProcs, api.MaxProcs + 1, 99, 100, 1 << 32, math.MaxInt}
}

// full has, behind each other, so many numbers, none of them 0.
func full(size int) []uint64 {
	l := make([]uint64, size)
	for i := range l {
		l[i] = uint64(i) + 1
	}
	return l
}

// samples are vectors of all lengths that matter: none, short ones, some of 0 at
// the end, one of MaxProcs places, and longer ones.
func samples() [][]uint64 {
	return [][]uint64{
		nil, {}, {0}, {0, 0, 0}, {1}, {3, 1}, {2}, {3, 1, 0}, {0, 0, 4}, {0, 5}, {7, 0, 7}, {huge}, {huge, 1}, {1, huge}, {1 << 63, 1 << 63},
		full(lastPlace), full(api.MaxProcs), full(api.MaxProcs + 1), full(100), make([]uint64, 100), append(make([]uint64, 99), 5),
	}
}

// small are all vectors of at most three places with numbers of at most two.
func small() [][]uint64 {
	all, last := [][]uint64{{}}, [][]uint64{{}}
	for range 3 {
		var next [][]uint64
		for _, a := range last {
			for n := range uint64(3) {
				next = append(next, append(slices.Clone(a), n))
			}
		}
		all, last = append(all, next...), next
	}
	return all
}

func toldAt(a []uint64, i int) uint64 {
	for at, n := range a {
		if at == i {
			return n
		}
	}
	return 0
}

func toldSet(a []uint64, i int, n uint64) []uint64 {
	if i < 0 || i > 63 {
		return a
	}
	var set []uint64
	for at := 0; at < len(a) || at <= i; at++ {
		if at == i {
			set = append(set, n)
		} else {
			set = append(set, toldAt(a, at))
		}
	}
	return set
}

// toldEnds are the least and the greatest number of each process, found by sorting.
func toldEnds(l [][]uint64) (least, greatest []uint64) {
	size := 0
	for _, a := range l {
		if len(a) > size {
			size = len(a)
		}
	}
	for i := range size {
		var numbers []uint64
		for _, a := range l {
			numbers = append(numbers, toldAt(a, i))
		}
		slices.Sort(numbers)
		least, greatest = append(least, numbers[0]), append(greatest, numbers[len(numbers)-1])
	}
	return least, greatest
}

// toldLack is the sum as great as it is, and 2^64 - 1 if that isn't enough.
func toldLack(a, b []uint64) uint64 {
	sum, most := new(big.Int), new(big.Int).SetUint64(huge)
	for i, n := range b {
		short := new(big.Int).SetUint64(n)
		short.Sub(short, new(big.Int).SetUint64(toldAt(a, i)))
		if short.Sign() > 0 {
			sum.Add(sum, short)
		}
	}
	if sum.Cmp(most) > 0 {
		return huge
	}
	return sum.Uint64()
}

// toldCovers and toldSame are asked of one vector at a time.
func toldCovers(a, b []uint64) bool { return toldLack(a, b) == 0 }

func toldSame(a, b []uint64) bool { return toldCovers(a, b) && toldCovers(b, a) }

func toldEach(a []uint64, l [][]uint64, told func(a, b []uint64) bool) bool {
	all := true
	for _, b := range l {
		all = told(a, b) && all
	}
	return all
}

// wantAsTold holds each call that takes several vectors against what the chapter says.
func wantAsTold(t *testing.T, l ...[]uint64) {
	t.Helper()
	least, greatest := toldEnds(l)
	if got := vec.Min(l...); !slices.Equal(got, least) {
		t.Errorf("Min(%v) = %v, want %v", l, got, least)
	}
	if got := vec.Max(l...); !slices.Equal(got, greatest) {
		t.Errorf("Max(%v) = %v, want %v", l, got, greatest)
	}
	if len(l) == 0 {
		return
	}
	a, rest := l[0], l[1:]
	if got, want := vec.Covers(a, rest...), toldEach(a, rest, toldCovers); got != want {
		t.Errorf("Covers(%v, %v) = %v", a, rest, got)
	}
	if got, want := vec.Same(a, rest...), toldEach(a, rest, toldSame); got != want {
		t.Errorf("Same(%v, %v) = %v", a, rest, got)
	}
	for _, b := range rest {
		if got, want := vec.Lack(a, b), toldLack(a, b); got != want {
			t.Errorf("Lack(%v, %v) = %d, want %d", a, b, got, want)
		}
	}
}

func TestAt(t *testing.T) { // P4.1
	for _, c := range []struct {
		a    []uint64
		i    int
		want uint64
	}{
		{[]uint64{3, 1, 7}, 0, 3},
		{[]uint64{3, 1, 7}, 1, 1},
		{[]uint64{3, 1, 7}, 2, 7},
		{[]uint64{3, 1, 7}, 3, 0},
		{[]uint64{3, 1, 7}, lastPlace, 0},
		{[]uint64{3, 1, 7}, -1, 0},
		{[]uint64{3, 1, 7}, math.MaxInt, 0},
		{[]uint64{3, 1, 7}, math.MinInt, 0},
		{[]uint64{3, 1, 7}[:2], 2, 0},
		{[]uint64{huge}, 0, huge},
		{nil, 0, 0},
		{[]uint64{}, 0, 0},
		{full(api.MaxProcs), lastPlace, 64},
		{full(api.MaxProcs), api.MaxProcs, 0},
		{full(api.MaxProcs + 1), api.MaxProcs, 65},
		{full(100), 99, 100},
	} {
		if got := vec.At(c.a, c.i); got != c.want {
			t.Errorf("At(%v, %d) = %d, want %d", c.a, c.i, got, c.want)
		}
	}
	for _, a := range samples() {
		for _, i := range places() {
			if got := vec.At(a, i); got != toldAt(a, i) {
				t.Errorf("At(%v, %d) = %d, want %d", a, i, got, toldAt(a, i))
			}
		}
	}
}

func TestSet(t *testing.T) { // P4.1
	for _, c := range []struct {
		a    []uint64
		i    int
		n    uint64
		want []uint64
	}{
		{[]uint64{2, 5}, 0, 9, []uint64{9, 5}},
		{[]uint64{2, 5}, 1, 9, []uint64{2, 9}},
		{[]uint64{2, 5}, 2, 9, []uint64{2, 5, 9}},
		{[]uint64{2, 5}, 4, 9, []uint64{2, 5, 0, 0, 9}},
		{[]uint64{2, 5}, 1, 5, []uint64{2, 5}},
		{[]uint64{2, 5}, 1, 0, []uint64{2, 0}},
		{[]uint64{2, 5}, 3, 0, []uint64{2, 5, 0, 0}},
		{[]uint64{2, 5, 0}, 0, 1, []uint64{1, 5, 0}},
		{[]uint64{2, 5}, -1, 9, []uint64{2, 5}},
		{[]uint64{2, 5}, math.MinInt, 9, []uint64{2, 5}},
		{[]uint64{2, 5}, api.MaxProcs, 9, []uint64{2, 5}},
		{[]uint64{2, 5}, api.MaxProcs + 1, 9, []uint64{2, 5}},
		{[]uint64{2, 5}, math.MaxInt, 9, []uint64{2, 5}},
		{nil, 0, huge, []uint64{huge}},
		{[]uint64{}, 0, 1, []uint64{1}},
		{nil, -1, 9, nil},
		{nil, api.MaxProcs, 9, nil},
		{nil, lastPlace, 7, append(make([]uint64, lastPlace), 7)},
		{[]uint64{4}, lastPlace, 7, append(append([]uint64{4}, make([]uint64, lastPlace-1)...), 7)},
	} {
		if got := vec.Set(c.a, c.i, c.n); !slices.Equal(got, c.want) {
			t.Errorf("Set(%v, %d, %d) = %v, want %v", c.a, c.i, c.n, got, c.want)
		}
	}
}

func TestSetAtEdges(t *testing.T) { // P4.1
	for _, a := range samples() {
		for _, i := range places() {
			for _, n := range edges() {
				if got, want := vec.Set(a, i, n), toldSet(a, i, n); !slices.Equal(got, want) {
					t.Fatalf("Set(%v, %d, %d) = %v, want %v", a, i, n, got, want)
				}
			}
		}
	}
}

func TestSetBehindTheLastProcess(t *testing.T) { // P4.1
	long := full(100)
	for _, i := range []int{api.MaxProcs, api.MaxProcs + 1, 99, 100} {
		if got := vec.Set(long, i, 7); !slices.Equal(got, long) {
			t.Errorf("Set of a long vector at %d: %v", i, got)
		}
	}
	if got := vec.Set(long, lastPlace, 7); len(got) != 100 || got[lastPlace] != 7 || got[api.MaxProcs] != 65 {
		t.Errorf("Set of a long vector at the last process: %v", got)
	}
}

func TestWhatIsSetIsThere(t *testing.T) { // P4.1
	for _, a := range samples() {
		for i := range api.MaxProcs {
			set := vec.Set(a, i, 77)
			for at := range 101 {
				if want := toldAt(a, at); at == i && vec.At(set, at) != 77 || at != i && vec.At(set, at) != want {
					t.Fatalf("Set(%v, %d, 77) = %v: at %d", a, i, set, at)
				}
			}
		}
	}
}

func TestMinAndMax(t *testing.T) { // P4.1
	for _, c := range []struct {
		l        [][]uint64
		min, max []uint64
	}{
		{[][]uint64{{3, 1}, {2}}, []uint64{2, 0}, []uint64{3, 1}},
		{[][]uint64{{2}, {3, 1}}, []uint64{2, 0}, []uint64{3, 1}},
		{[][]uint64{{3, 1, 7}, {2, 5, 7}}, []uint64{2, 1, 7}, []uint64{3, 5, 7}},
		{[][]uint64{{3, 1, 7}, {2, 5}, {9}}, []uint64{2, 0, 0}, []uint64{9, 5, 7}},
		{[][]uint64{{3, 1}, {2, 5}, {2, 5}, {3, 1}}, []uint64{2, 1}, []uint64{3, 5}},
		{[][]uint64{{4, 5, 6}}, []uint64{4, 5, 6}, []uint64{4, 5, 6}},
		{nil, nil, nil},
		{[][]uint64{}, nil, nil},
		{[][]uint64{nil}, nil, nil},
		{[][]uint64{{}, nil, {}}, nil, nil},
		{[][]uint64{nil, {3, 1}}, []uint64{0, 0}, []uint64{3, 1}},
		{[][]uint64{{3, 1}, {}}, []uint64{0, 0}, []uint64{3, 1}},
		{[][]uint64{{3, 0, 0}}, []uint64{3, 0, 0}, []uint64{3, 0, 0}},
		{[][]uint64{{3}, {0, 0, 0}}, []uint64{0, 0, 0}, []uint64{3, 0, 0}},
		{[][]uint64{{huge, 0}, {huge - 1, 1 << 63}}, []uint64{huge - 1, 0}, []uint64{huge, 1 << 63}},
		{[][]uint64{full(100), full(api.MaxProcs)}, append(full(api.MaxProcs), make([]uint64, 36)...), full(100)},
	} {
		if got := vec.Min(c.l...); !slices.Equal(got, c.min) {
			t.Errorf("Min(%v) = %v, want %v", c.l, got, c.min)
		}
		if got := vec.Max(c.l...); !slices.Equal(got, c.max) {
			t.Errorf("Max(%v) = %v, want %v", c.l, got, c.max)
		}
	}
}

func TestMinIsTheGreatestThatAllCover(t *testing.T) { // P4.2
	l := small()
	dice := rand.New(rand.NewSource(7))
	for range 1500 {
		some := make([][]uint64, 1+dice.Intn(4))
		for i := range some {
			some[i] = l[dice.Intn(len(l))]
		}
		least, greatest := vec.Min(some...), vec.Max(some...)
		for _, a := range some {
			if !vec.Covers(a, least) || !vec.Covers(greatest, a) {
				t.Fatalf("%v: %v isn't covered, or %v doesn't cover", some, least, greatest)
			}
		}
		if !vec.Covers(greatest, some...) {
			t.Fatalf("%v: %v doesn't cover all", some, greatest)
		}
		for _, other := range l {
			covered := toldEach(other, some, func(o, a []uint64) bool { return toldCovers(a, o) })
			if covered && !vec.Covers(least, other) {
				t.Fatalf("%v: all cover %v, Min is %v", some, other, least)
			}
			if toldEach(other, some, toldCovers) && !vec.Covers(other, greatest) {
				t.Fatalf("%v: %v covers all, Max is %v", some, other, greatest)
			}
		}
	}
}

func TestMinAndMaxInWhateverOrder(t *testing.T) { // P4.2
	l := append(samples(), small()...)
	dice := rand.New(rand.NewSource(8))
	for range 2000 {
		some := make([][]uint64, 1+dice.Intn(6))
		for i := range some {
			some[i] = l[dice.Intn(len(l))]
		}
		least, greatest := vec.Min(some...), vec.Max(some...)
		some = append(some, some[dice.Intn(len(some))]) // one of them twice is no other vector
		dice.Shuffle(len(some), func(i, j int) { some[i], some[j] = some[j], some[i] })
		if got := vec.Min(some...); !slices.Equal(got, least) {
			t.Fatalf("Min(%v) = %v, in another order %v", some, got, least)
		}
		if got := vec.Max(some...); !slices.Equal(got, greatest) {
			t.Fatalf("Max(%v) = %v, in another order %v", some, got, greatest)
		}
	}
}

func TestMinAndMaxTwoAtATime(t *testing.T) { // P4.2
	a, b, c := []uint64{3, 1, 7}, []uint64{2, 5}, []uint64{9, 0, 1, 4}
	if got := vec.Min(vec.Min(a, b), c); !slices.Equal(got, vec.Min(a, b, c)) {
		t.Errorf("Min of Min: %v", got)
	}
	if got := vec.Max(vec.Max(a, b), c); !slices.Equal(got, vec.Max(a, b, c)) {
		t.Errorf("Max of Max: %v", got)
	}
}

func TestCovers(t *testing.T) { // P4.1
	for _, c := range []struct {
		a    []uint64
		l    [][]uint64
		want bool
	}{
		{[]uint64{3, 1}, nil, true},
		{nil, nil, true},
		{nil, [][]uint64{nil, {}, {0}, {0, 0}}, true},
		{nil, [][]uint64{{1}}, false},
		{[]uint64{3, 1}, [][]uint64{nil}, true},
		{[]uint64{3, 1}, [][]uint64{{}}, true},
		{[]uint64{3, 1}, [][]uint64{{3, 1}}, true},
		{[]uint64{3, 1}, [][]uint64{{2}}, true},
		{[]uint64{3, 1}, [][]uint64{{3, 1, 0, 0}}, true},
		{[]uint64{3, 1, 0}, [][]uint64{{3, 1}}, true},
		{[]uint64{3, 1}, [][]uint64{{4, 1}}, false},
		{[]uint64{3, 1}, [][]uint64{{3, 2}}, false},
		{[]uint64{3, 1}, [][]uint64{{3, 1, 1}}, false},
		{[]uint64{3, 1}, [][]uint64{{0, 0, 0, 1}}, false},
		{[]uint64{9, 9, 9}, [][]uint64{{1, 10, 1}}, false},
		{[]uint64{3, 1}, [][]uint64{{2}, {4}}, false},
		{[]uint64{3, 1}, [][]uint64{{4}, {2}}, false},
		{[]uint64{3, 1}, [][]uint64{{2}, {3, 1}, {0, 1}}, true},
		{[]uint64{huge}, [][]uint64{{huge}, {0}}, true},
		{[]uint64{huge - 1}, [][]uint64{{huge}}, false},
		{[]uint64{1 << 63}, [][]uint64{{1<<63 - 1}}, true},
		{[]uint64{1}, [][]uint64{{1 << 63}}, false},
		{full(api.MaxProcs), [][]uint64{full(lastPlace)}, true},
		{full(lastPlace), [][]uint64{full(api.MaxProcs)}, false},
		{full(100), [][]uint64{full(api.MaxProcs)}, true},
		{full(99), [][]uint64{full(100)}, false},
	} {
		if got := vec.Covers(c.a, c.l...); got != c.want {
			t.Errorf("Covers(%v, %v) = %v", c.a, c.l, got)
		}
	}
}

func TestCoversButAtOnePlace(t *testing.T) { // P4.1
	a := full(api.MaxProcs)
	for i := range a {
		more := slices.Clone(a)
		more[i]++
		if vec.Covers(a, more) || vec.Covers(a, nil, more, a) || !vec.Covers(more, a) {
			t.Errorf("more at the place %d alone: covers", i)
		}
		if vec.Same(a, more) || vec.Same(more, a) || vec.Same(a, a, more, a) {
			t.Errorf("more at the place %d alone: same", i)
		}
		if vec.Lack(a, more) != 1 || vec.Lack(more, a) != 0 {
			t.Errorf("more at the place %d alone: lacks %d, %d", i, vec.Lack(a, more), vec.Lack(more, a))
		}
	}
}

func TestSame(t *testing.T) { // P4.1
	for _, c := range []struct {
		a    []uint64
		l    [][]uint64
		want bool
	}{
		{[]uint64{2, 5}, nil, true},
		{nil, [][]uint64{nil, {}, {0}, {0, 0, 0}}, true},
		{[]uint64{0, 0}, [][]uint64{nil, {}}, true},
		{[]uint64{2, 5}, [][]uint64{{2, 5}}, true},
		{[]uint64{2, 5}, [][]uint64{{2, 5, 0}, {2, 5}, {2, 5, 0, 0}}, true},
		{[]uint64{2, 5, 0}, [][]uint64{{2, 5}}, true},
		{[]uint64{2, 5}, [][]uint64{{2, 5, 1}}, false},
		{[]uint64{2, 5, 1}, [][]uint64{{2, 5}}, false},
		{[]uint64{2, 5}, [][]uint64{{5, 2}}, false},
		{[]uint64{2, 5}, [][]uint64{{2, 4}}, false},
		{[]uint64{2, 5}, [][]uint64{{2, 6}}, false},
		{[]uint64{2, 5}, [][]uint64{nil}, false},
		{nil, [][]uint64{{2, 5}}, false},
		{[]uint64{2, 5}, [][]uint64{{2, 5}, {2}}, false},
		{[]uint64{2, 5}, [][]uint64{{2}, {2, 5}}, false},
		{[]uint64{2, 5}, [][]uint64{{3, 6}, {3, 6}}, false},
		{[]uint64{huge}, [][]uint64{{huge}}, true},
		{[]uint64{huge}, [][]uint64{{huge - 1}}, false},
		{full(api.MaxProcs), [][]uint64{append(full(api.MaxProcs), make([]uint64, 9)...)}, true},
		{full(100), [][]uint64{full(api.MaxProcs)}, false},
		{full(api.MaxProcs), [][]uint64{full(100)}, false},
	} {
		if got := vec.Same(c.a, c.l...); got != c.want {
			t.Errorf("Same(%v, %v) = %v", c.a, c.l, got)
		}
	}
}

func TestLack(t *testing.T) { // P4.1
	for _, c := range []struct {
		a, b []uint64
		want uint64
	}{
		{nil, nil, 0},
		{[]uint64{}, []uint64{}, 0},
		{[]uint64{3, 1}, nil, 0},
		{nil, []uint64{3, 1}, 4},
		{[]uint64{}, []uint64{0, 0}, 0},
		{[]uint64{3, 1, 7}, []uint64{2, 5}, 4},
		{[]uint64{2, 5}, []uint64{3, 1, 7}, 8},
		{[]uint64{2, 5}, []uint64{2, 5}, 0},
		{[]uint64{2, 5, 9}, []uint64{2, 5}, 0},
		{[]uint64{9, 0}, []uint64{0, 9}, 9},
		{[]uint64{huge, 0}, []uint64{0, 1}, 1},
		{[]uint64{huge}, []uint64{0}, 0},
		{[]uint64{1}, []uint64{huge}, huge - 1},
		{nil, []uint64{huge}, huge},
		{nil, []uint64{huge - 1, 1}, huge},
		{nil, []uint64{1, huge - 1}, huge},
		{nil, []uint64{huge - 1}, huge - 1},
		{nil, []uint64{huge - 2, 1}, huge - 1},
		{nil, []uint64{huge, 1}, huge},
		{nil, []uint64{1, huge}, huge},
		{nil, []uint64{huge, huge}, huge},
		{nil, []uint64{huge, 0, 0}, huge},
		{[]uint64{1}, []uint64{huge, 1}, huge},
		{[]uint64{1}, []uint64{huge, 2}, huge},
		{nil, []uint64{1 << 63, 1 << 63}, huge},
		{nil, []uint64{1 << 63, 1<<63 - 1}, huge},
		{nil, []uint64{1 << 63, 1<<63 - 2}, huge - 1},
		{nil, []uint64{1 << 63, 1 << 63, 3}, huge},
		{nil, []uint64{huge, 3, huge, 5}, huge},
		{[]uint64{0, huge, 0, huge}, []uint64{1, 0, 1, 0}, 2},
		{make([]uint64, 100), full(100), 5050},
		{full(api.MaxProcs), full(api.MaxProcs + 1), 65},
	} {
		if got := vec.Lack(c.a, c.b); got != c.want {
			t.Errorf("Lack(%v, %v) = %d, want %d", c.a, c.b, got, c.want)
		}
	}
}

func TestAsTold(t *testing.T) { // P4.1
	wantAsTold(t)
	for _, l := range [][][]uint64{samples(), small()} {
		wantAsTold(t, l...)
		for _, a := range l {
			wantAsTold(t, a)
			for _, b := range l {
				wantAsTold(t, a, b)
			}
		}
	}
	numbers := edges()
	dice := rand.New(rand.NewSource(9))
	for range 4000 {
		some := make([][]uint64, dice.Intn(6))
		for i := range some {
			some[i] = make([]uint64, dice.Intn(6))
			for at := range some[i] {
				some[i][at] = numbers[dice.Intn(len(numbers))]
			}
		}
		wantAsTold(t, some...)
	}
}

func TestLackIsNoneWhereItCovers(t *testing.T) { // P4.1, P4.2
	l := append(samples(), small()...)
	for _, a := range l {
		for _, b := range l {
			if vec.Covers(a, b) != (vec.Lack(a, b) == 0) {
				t.Fatalf("Covers(%v, %v) = %v, lacks %d", a, b, vec.Covers(a, b), vec.Lack(a, b))
			}
			if vec.Same(a, b) != (vec.Covers(a, b) && vec.Covers(b, a)) {
				t.Fatalf("Same(%v, %v) = %v", a, b, vec.Same(a, b))
			}
			if vec.Covers(a, b) != vec.Same(vec.Max(a, b), a) || vec.Covers(a, b) != vec.Same(vec.Min(a, b), b) {
				t.Fatalf("Covers(%v, %v) = %v, Max %v, Min %v", a, b, vec.Covers(a, b), vec.Max(a, b), vec.Min(a, b))
			}
		}
	}
}

func TestNoListIsAnEmptyOne(t *testing.T) { // P0.5
	b := []uint64{3, 1}
	for _, none := range [][]uint64{nil, {}} {
		if vec.At(none, 0) != 0 || len(vec.Set(none, -1, 9)) != 0 || !slices.Equal(vec.Set(none, 1, 9), []uint64{0, 9}) {
			t.Errorf("At, Set of %#v", none)
		}
		if len(vec.Min(none)) != 0 || len(vec.Max(none)) != 0 || !slices.Equal(vec.Min(none, b), []uint64{0, 0}) || !slices.Equal(vec.Max(none, b), b) {
			t.Errorf("Min, Max of %#v", none)
		}
		if !vec.Covers(none, none) || !vec.Covers(b, none) || vec.Covers(none, b) || !vec.Same(none, none) || vec.Same(none, b) || vec.Lack(none, b) != 4 || vec.Lack(b, none) != 0 {
			t.Errorf("Covers, Same, Lack of %#v", none)
		}
	}
	for _, none := range [][][]uint64{nil, {}} {
		if len(vec.Min(none...)) != 0 || len(vec.Max(none...)) != 0 || !vec.Covers(b, none...) || !vec.Same(b, none...) {
			t.Errorf("no vectors: %#v", none)
		}
	}
}

func TestVectorsAreLeftAsTheyWere(t *testing.T) { // P0.4
	a, b := []uint64{3, 1, 7, 8, 9}, []uint64{2, 5, 6}
	keptA, keptB := slices.Clone(a), slices.Clone(b)
	l := [][]uint64{a[:2], b[:1], a[:3], b}
	for size := range len(l) {
		some := l[:size]
		for _, i := range places() {
			vec.At(a[:2], i)
			vec.Set(a[:2], i, 77) // a has room behind its end for some of these
		}
		vec.Min(some...)
		vec.Max(some...)
		vec.Covers(a[:2], some...)
		vec.Same(b[:2], some...)
		vec.Lack(a[:2], b[:2])
		if !slices.Equal(a, keptA) || !slices.Equal(b, keptB) {
			t.Fatalf("vectors that were handed in are changed: %v, %v", a, b)
		}
		if len(l[0]) != 2 || len(l[1]) != 1 || len(l[2]) != 3 || len(l[3]) != 3 {
			t.Fatalf("the list that was handed in is changed: %v", l)
		}
	}
}

func TestAnswersAreNewMemory(t *testing.T) { // P0.4
	a := make([]uint64, 2, 9)
	a[0], a[1] = 3, 1
	for name, call := range map[string]func() []uint64{
		"Set":              func() []uint64 { return vec.Set(a, 1, 1) },
		"Set, longer":      func() []uint64 { return vec.Set(a, 3, 4) },
		"Set, below 0":     func() []uint64 { return vec.Set(a, -1, 4) },
		"Set, MaxProcs":    func() []uint64 { return vec.Set(a, api.MaxProcs, 4) },
		"Min of one":       func() []uint64 { return vec.Min(a) },
		"Max of one":       func() []uint64 { return vec.Max(a) },
		"Min of one twice": func() []uint64 { return vec.Min(a, a) },
		"Max of one twice": func() []uint64 { return vec.Max(a, a) },
		"Max with none":    func() []uint64 { return vec.Max(nil, a, nil) },
	} {
		first, second := call(), call()
		want := slices.Clone(first)
		first = first[:cap(first)]
		for i := range first {
			first[i] = 77
		}
		if !slices.Equal(second, want) || !slices.Equal(call(), want) {
			t.Errorf("%s: answers share memory: %v, want %v", name, second, want)
		}
		if !slices.Equal(a[:cap(a)], []uint64{3, 1, 0, 0, 0, 0, 0, 0, 0}) {
			t.Errorf("%s: the answer shares memory with what was handed in: %v", name, a[:cap(a)])
		}
		a[0] = 5
		if !slices.Equal(second, want) {
			t.Errorf("%s: the answer hangs on what was handed in: %v, want %v", name, second, want)
		}
		a[0] = 3
	}
}

func TestAnswersHangOnArgumentsAlone(t *testing.T) { // P0.6
	l := samples()
	least, greatest := vec.Min(l...), vec.Max(l...)
	for range 3 {
		vec.Min([]uint64{9, 9}, []uint64{8})
		vec.Max([]uint64{huge}, full(200))
		vec.Set(full(3), 9, huge)
		if got := vec.Min(l...); !slices.Equal(got, least) {
			t.Errorf("Min hangs on earlier calls: %v, %v", got, least)
		}
		if got := vec.Max(l...); !slices.Equal(got, greatest) {
			t.Errorf("Max hangs on earlier calls: %v, %v", got, greatest)
		}
	}
}

// vectorsOf reads vectors from bytes: each begins with how many numbers it has, and
// a number is a byte, or is counted down from 2^64 - 1 if that byte is 128 and more.
func vectorsOf(b []byte) [][]uint64 {
	var l [][]uint64
	for len(b) > 0 {
		size := min(int(b[0]%100), len(b)-1)
		var a []uint64
		for _, n := range b[1 : 1+size] {
			a = append(a, uint64(int64(int8(n))))
		}
		l, b = append(l, a), b[1+size:]
	}
	return l
}

func FuzzVectors(f *testing.F) { // P4.1, P4.2
	f.Add([]byte{2, 3, 1, 1, 2})
	f.Add([]byte{0, 2, 255, 1, 3, 0, 0, 0, 1, 128})
	f.Fuzz(func(t *testing.T, b []byte) {
		l := vectorsOf(b)
		wantAsTold(t, l...)
		slices.Reverse(l)
		wantAsTold(t, l...)
	})
}

func FuzzPlaces(f *testing.F) { // P4.1
	f.Add([]byte{}, 0, uint64(1))
	f.Add(make([]byte, 24), lastPlace, uint64(huge))
	f.Add(make([]byte, 800), api.MaxProcs, uint64(7))
	f.Add(make([]byte, 8), -1, uint64(7))
	f.Fuzz(func(t *testing.T, b []byte, i int, n uint64) {
		var a []uint64
		for ; len(b) >= 8; b = b[8:] {
			a = append(a, binary.LittleEndian.Uint64(b))
		}
		if got := vec.At(a, i); got != toldAt(a, i) {
			t.Fatalf("At(%v, %d) = %d", a, i, got)
		}
		if got, want := vec.Set(a, i, n), toldSet(a, i, n); !slices.Equal(got, want) {
			t.Fatalf("Set(%v, %d, %d) = %v, want %v", a, i, n, got, want)
		}
	})
}
