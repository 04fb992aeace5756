package grant_test

import (
	"fmt"
	"math/rand"
	"slices"
	"testing"

	"unison/grant"
)

func TestExample(t *testing.T) { // P17.1, P17.2
	g := grant.New(2, 1)
	wantTell(t, g, 0, 3, true, 0)
	wantTell(t, g, 1, 5, true, 3)
	wantGone(t, g, 1, 5, 0)
}

func TestARow(t *testing.T) { // P17.1, P17.2: with the answers written out
	g := grant.New(4, 2)
	wantLimit(t, g, 0)
	wantOf(t, g, 0, 0, 0, 0, 0)
	wantTell(t, g, 0, 6, true, 0)
	wantTell(t, g, 2, 8, true, 0)
	wantTell(t, g, 1, 4, true, 0)
	wantTell(t, g, 3, 3, true, 3)
	wantTell(t, g, 3, 3, false, 3)
	wantTell(t, g, 3, 2, false, 3)
	wantTell(t, g, 0, 5, false, 3)
	wantTell(t, g, 4, 9, false, 3)
	wantTell(t, g, -1, 9, false, 3)
	wantOf(t, g, 6, 4, 8, 3, 0)
	wantTell(t, g, 3, 5, true, 4)
	if g.Left(1) != 3 || g.Left(3) != 1 || g.Left(5) != 0 || !g.May(1) || !g.May(3) {
		t.Errorf("of 4: Left of 1, 3, 5 is %d, %d, %d; May of 1, 3 is %t, %t", g.Left(1), g.Left(3), g.Left(5), g.May(1), g.May(3))
	}
	wantGone(t, g, 1, 5, 1, 2)
	wantTell(t, g, 1, 9, true, 5)
	wantTell(t, g, 1, 4, false, 5)
	wantGone(t, g, 0, 5, 1)
	wantGone(t, g, 2, 8, 3, 7, 0, 3, -1)
	wantTell(t, g, 0, 7, true, 8)
	wantTell(t, g, 2, 20, true, 20)
	wantOf(t, g, 7, 9, 20, 5, 0)
}

// permutations are all orders of the numbers below one.
func permutations(n int) [][]int {
	l := [][]int{{}}
	for i := range n {
		var longer [][]int
		for _, order := range l {
			for at := range i + 1 {
				longer = append(longer, slices.Insert(slices.Clone(order), at, i))
			}
		}
		l = longer
	}
	return l
}

func TestToldInAllOrders(t *testing.T) { // P17.1, P17.2: different numbers, equal ones, and some twice
	for n := 1; n <= 5; n++ {
		for _, order := range permutations(n) {
			for _, told := range [][]uint64{{1, 2, 3, 4, 5}, {5, 4, 3, 2, 1}, {2, 2, 2, 2, 2}, {3, 1, 3, 1, 2}, {0, 7, 7, 7, 7}} {
				w := watch(t, n, n/2)
				for _, p := range order {
					w.tell(p, told[p])
				}
				wantLimit(t, w.g, slices.Min(told[:n]))
				for _, p := range order {
					w.tell(p, 2*told[order[0]])
				}
			}
		}
	}
}

func TestGoneInAllOrders(t *testing.T) { // P17.1, P17.2: one at a time, and many at once, till my word alone counts
	for n := 1; n <= 5; n++ {
		for _, order := range permutations(n) {
			for me := range n {
				one, all := watch(t, n, me), watch(t, n, me)
				one.tellAll([]uint64{5, 2, 4, 1, 3}[:n]...)
				all.tellAll([]uint64{5, 2, 4, 1, 3}[:n]...)
				went := 0
				for _, p := range order {
					went += one.gone(p)
				}
				if at := all.gone(order...); went != n-1 || at != n-1 {
					t.Errorf("of %d, %d and %d are gone", n, went, at)
				}
				wantLimit(t, one.g, []uint64{5, 2, 4, 1, 3}[me])
				wantLimit(t, all.g, []uint64{5, 2, 4, 1, 3}[me])
			}
		}
	}
}

func TestToldAndGoneInAllOrders(t *testing.T) { // P17.1, P17.2: the last one tells or goes, and all others do
	for _, order := range permutations(6) { // 0 to 2 tell, 3 to 5 are gone
		for me := range 3 {
			w := watch(t, 3, me)
			for _, x := range order {
				if x < 3 {
					w.tell(x, uint64(x+4))
				} else {
					w.gone(x - 3)
				}
			}
			wantLimit(t, w.g, uint64(me+4))
			wantOf(t, w.g, 4, 5, 6, 0)
		}
	}
}

func TestOneAlone(t *testing.T) { // P17.1, P17.2: my word counts, and I am never gone
	for _, me := range []int{least, -1, 0, 1, greatest} {
		g := grant.New(1, me)
		wantLimit(t, g, 0)
		wantGone(t, g, 0, 0, 0, 0, 1, -1)
		wantTell(t, g, 0, 0, false, 0)
		wantTell(t, g, 0, 1, true, 1)
		wantTell(t, g, 1, 2, false, 1)
		wantGone(t, g, 0, 1, 0)
		wantTell(t, g, 0, 9, true, 9)
		wantTell(t, g, 0, 8, false, 9)
		wantTell(t, g, 0, over, true, over)
	}
}

func TestTwo(t *testing.T) { // P17.1, P17.2: whoever I am, and whoever told less
	for me := range 2 {
		for a := range uint64(4) {
			for b := range uint64(4) {
				w := watch(t, 2, me)
				w.tellAll(a, b)
				wantLimit(t, w.g, min(a, b))
				if w.gone(me) != 0 || w.gone(1-me) != 1 || w.gone(1-me) != 0 {
					t.Errorf("of two I am gone, or the other one isn't")
				}
				wantLimit(t, w.g, []uint64{a, b}[me])
				w.tell(1-me, 9)
				wantLimit(t, w.g, []uint64{a, b}[me])
				w.tell(me, 7)
				wantLimit(t, w.g, 7)
			}
		}
	}
}

func TestMany(t *testing.T) { // P17.1, P17.2: up to MaxProcs, and whoever tells least, and goes
	for _, n := range []int{3, 31, 32, 33, 63, maxProcs} {
		for _, p := range []int{0, 1, n / 2, n - 2, n - 1} {
			me := (p + 1) % n
			w := watch(t, n, me)
			for q := range n {
				w.tell(q, uint64(100+(q+n-p)%n))
			}
			wantLimit(t, w.g, 100)
			w.tell(p, 99)
			w.tell(p, 100)
			wantLimit(t, w.g, 100)
			if w.gone(p) != 1 {
				w.fail("it wasn't")
			}
			wantLimit(t, w.g, 101)
			if w.goneAll() != n-2 {
				w.fail("they weren't")
			}
			wantLimit(t, w.g, 101)
			w.tell(me, over)
			wantLimit(t, w.g, over)
		}
	}
}

func TestGroupsOfWrongSizes(t *testing.T) { // P17.1: below 1, above MaxProcs, and between: how many there are is told by Tell
	for _, c := range [][2]int{
		{least, 1}, {least + 1, 1}, {-1 << 32, 1}, {-64, 1}, {-2, 1}, {-1, 1}, {0, 1}, {1, 1}, {2, 2}, {3, 3}, {63, 63}, {64, 64},
		{65, 64}, {66, 64}, {128, 64}, {255, 64}, {256, 64}, {257, 64}, {1 << 16, 64}, {1 << 31, 64}, {1 << 32, 64}, {1<<32 + 1, 64}, {greatest, 64},
	} {
		for _, me := range []int{0, 1, c[1] - 1} {
			g := grant.New(c[0], me)
			for p := range 300 {
				if got, want := g.Tell(p, 1), p < c[1]; got != want {
					t.Errorf("New(%d, %d): Tell(%d, 1) = %t, want %t", c[0], me, p, got, want)
				}
				limit := uint64(0)
				if p >= c[1]-1 {
					limit = 1
				}
				wantLimit(t, g, limit)
			}
		}
	}
}

func TestMeOutOfTheRing(t *testing.T) { // P17.1: below 0, n and above, and between: who I am is told by who is never gone
	for _, n := range []int{0, 1, 2, 3, 63, 64, 65, greatest} {
		size := max(1, min(n, maxProcs))
		for _, me := range append(slices.Clone(strange), 0, 1, 2, 3, size-2, size-1, size, size+1) {
			w := watch(t, n, me)
			if got := w.goneAll(); got != size-1 {
				w.fail("it is %d, want %d", got, size-1)
			}
			want := max(0, min(me, size-1))
			for p := range size {
				w.tell(p, 5)
				if stands := w.g.Limit() == 0; stands != (p < want) {
					w.fail("the limit is %d, and I am %d", w.g.Limit(), want)
				}
			}
		}
	}
}

func TestToldAgain(t *testing.T) { // P17.1: the same, one less, one more: what is told only rises
	for _, upto := range []uint64{1, 2, 3, 255, 256, 1 << 32, last, 1 << 63, over - 1} {
		for p := range 3 {
			w := watch(t, 3, 1)
			w.tellAll(upto, upto, upto)
			for _, c := range []struct {
				upto uint64
				want bool
			}{{upto, false}, {upto - 1, false}, {0, false}, {upto, false}, {upto + 1, true}, {upto, false}, {upto + 1, false}, {over, upto+1 != over}} {
				if got := w.tell(p, c.upto); got != c.want {
					w.fail("it is %t, want %t", got, c.want)
				}
			}
			wantLimit(t, w.g, upto)
		}
	}
}

func TestOfZeroAndOfTheGreatestNumber(t *testing.T) { // P17.1, P17.2
	for n := 1; n <= 4; n++ {
		w := watch(t, n, 0)
		for p := range n {
			if w.tell(p, 0) {
				w.fail("0 isn't above what it told")
			}
		}
		for p := range n {
			if !w.tell(p, over) || w.tell(p, over) || w.tell(p, over-1) || w.tell(p, 0) {
				w.fail("it rises once")
			}
		}
		wantLimit(t, w.g, over)
		if !w.g.May(over) || !w.g.May(1) || w.g.May(0) || w.g.Left(0) != over || w.g.Left(over-1) != 1 || w.g.Left(over) != 0 {
			w.fail("May or Left of the greatest limit")
		}
		w.goneAll()
		wantLimit(t, w.g, over)
	}
}

func TestMyOwnWord(t *testing.T) { // P17.1, P17.2: it counts as the others' do, though I tell that I am gone
	for me := range 4 {
		w := watch(t, 4, me)
		for p := range 4 {
			if p != me {
				w.tell(p, 9)
			}
		}
		wantLimit(t, w.g, 0)
		w.tell(me, 3)
		wantLimit(t, w.g, 3)
		if w.gone(me) != 0 || w.gone(me, me) != 0 {
			w.fail("I am never gone")
		}
		wantLimit(t, w.g, 3)
		w.tell(me, 11)
		wantLimit(t, w.g, 9)
		if w.gone((me+1)%4, me, (me+2)%4) != 2 {
			w.fail("two others are")
		}
		wantLimit(t, w.g, 9)
		w.gone((me + 3) % 4)
		wantLimit(t, w.g, 11)
	}
}

func TestGoneTwice(t *testing.T) { // P17.1: in one Gone, and in two; among others, too
	for _, c := range []struct {
		gone [][]int
		want []int
	}{
		{[][]int{{1}, {1}}, []int{1, 0}},
		{[][]int{{1, 1}}, []int{1}},
		{[][]int{{1, 1, 1}, {1, 1}}, []int{1, 0}},
		{[][]int{{1, 2, 1}}, []int{2}},
		{[][]int{{2, 1, 1, 2}, {1, 2, 3}, {3, 2, 1}}, []int{2, 1, 0}},
		{[][]int{{0, 0}}, []int{0}}, // I am 0
		{[][]int{{0, 1, 0}}, []int{1}},
		{[][]int{{1, 2, 3, 4, 0}, {0, 1, 2, 3, 4}}, []int{4, 0}},
		{[][]int{{-1, 5, 3}, {5, -1}, {3, 5}}, []int{1, 0, 0}},
		{[][]int{{}, {4}, nil, {4}}, []int{0, 1, 0, 0}},
	} {
		w := watch(t, 5, 0)
		w.tellAll(9, 1, 2, 3, 4)
		for i, l := range c.gone {
			if got := w.gone(l...); got != c.want[i] {
				w.fail("it is %d, want %d", got, c.want[i])
			}
		}
	}
}

func TestTheLeastOneIsGone(t *testing.T) { // P17.1, P17.2: the limit rises to the next one; else it stands
	for _, c := range []struct {
		told  []uint64
		gone  []int
		limit uint64
	}{
		{[]uint64{9, 3, 5, 7}, []int{1}, 5},
		{[]uint64{9, 3, 5, 7}, []int{2}, 3},
		{[]uint64{9, 3, 5, 7}, []int{3}, 3},
		{[]uint64{9, 3, 5, 7}, []int{0}, 3}, // I am 0
		{[]uint64{9, 3, 5, 7}, []int{1, 2}, 7},
		{[]uint64{9, 3, 5, 7}, []int{2, 3}, 3},
		{[]uint64{9, 3, 5, 7}, []int{1, 2, 3}, 9},
		{[]uint64{4, 3, 5, 7}, []int{1}, 4},
		{[]uint64{4, 3, 5, 7}, []int{1, 2, 3}, 4},
		{[]uint64{2, 3, 5, 7}, []int{1, 2, 3}, 2},
		{[]uint64{9, 3, 3, 7}, []int{1}, 3}, // another one told as little
		{[]uint64{9, 3, 3, 7}, []int{2, 1}, 7},
		{[]uint64{9, 0, 5, 7}, []int{1}, 5}, // it told nothing
		{[]uint64{0, 0, 5, 7}, []int{1, 2, 3}, 0},
		{[]uint64{over, 0, over, 1}, []int{1, 3}, over},
	} {
		w := watch(t, 4, 0)
		w.tellAll(c.told...)
		w.gone(c.gone...)
		wantLimit(t, w.g, c.limit)
		wantOf(t, w.g, c.told...)
	}
}

func TestOneThatIsGoneTellsMore(t *testing.T) { // P17.1, P17.2: that is what it told, but its word doesn't count, and it isn't back
	w := watch(t, 3, 1)
	w.tellAll(2, 6, 4)
	w.gone(0)
	for _, upto := range []uint64{2, 1, 3, 5, 4, 7, 100, over} {
		w.tell(0, upto)
		wantLimit(t, w.g, 4)
	}
	wantOf(t, w.g, over, 6, 4)
	w.gone(2, 0)
	wantLimit(t, w.g, 6)
	w.tell(2, 5)
	wantLimit(t, w.g, 6)
	w.tell(1, 8)
	wantLimit(t, w.g, 8)
	wantOf(t, w.g, over, 8, 5)
}

func TestGoneAheadOfItsWord(t *testing.T) { // P17.1, P17.2: one that told nothing is gone, and tells then
	w := watch(t, 2, 0)
	if w.gone(1) != 1 {
		w.fail("it wasn't")
	}
	wantLimit(t, w.g, 0)
	w.tell(0, 5)
	wantLimit(t, w.g, 5)
	w.tell(1, 1)
	wantLimit(t, w.g, 5)
	wantOf(t, w.g, 5, 1)
}

func TestMay(t *testing.T) { // P17.1: of 0, of 1, of the limit, one less and one more
	for _, limit := range []uint64{0, 1, 2, 3, 255, 256, 1 << 32, last, 1 << 63, over - 1, over} {
		w := watch(t, 2, 0)
		w.tellAll(limit, over)
		for _, c := range []struct {
			seq  uint64
			want bool
		}{{0, false}, {1, limit > 0}, {limit, limit > 0}, {limit - 1, limit > 1}, {limit + 1, false}, {over, limit == over}} {
			if got := w.g.May(c.seq); got != c.want {
				t.Errorf("the limit is %d: May(%d) = %t, want %t", limit, c.seq, got, c.want)
			}
		}
	}
}

func TestLeft(t *testing.T) { // P17.1: of the limit, of one less and one more, of 0 and of the greatest number
	for _, c := range []struct{ limit, after, want uint64 }{
		{0, 0, 0}, {0, 1, 0}, {0, over, 0},
		{1, 0, 1}, {1, 1, 0}, {1, 2, 0}, {1, over, 0},
		{5, 0, 5}, {5, 1, 4}, {5, 3, 2}, {5, 4, 1}, {5, 5, 0}, {5, 6, 0}, {5, 7, 0}, {5, last, 0}, {5, over - 1, 0}, {5, over, 0},
		{256, 255, 1}, {256, 0, 256}, {256, 257, 0},
		{1 << 32, 0, 1 << 32}, {1 << 32, 1, 1<<32 - 1}, {1 << 32, 1<<32 - 1, 1}, {1 << 32, 1<<32 + 1, 0},
		{last, 0, last}, {last, last - 1, 1}, {last, last, 0}, {last, last + 1, 0}, {last, over, 0},
		{1 << 63, 0, 1 << 63}, {1 << 63, 1<<63 - 1, 1}, {1 << 63, 1<<63 + 1, 0},
		{over, 0, over}, {over, 1, over - 1}, {over, last, over - last}, {over, over - 1, 1}, {over, over, 0},
	} {
		w := watch(t, 2, 1)
		w.tellAll(c.limit, over)
		if got := w.g.Left(c.after); got != c.want {
			t.Errorf("the limit is %d: Left(%d) = %d, want %d", c.limit, c.after, got, c.want)
		}
	}
}

func TestMayAndLeftAgree(t *testing.T) { // P17.1: as many more may be sent as may one behind the other
	for limit := range uint64(12) {
		g := grant.New(1, 0)
		g.Tell(0, limit)
		for after := range uint64(15) {
			n := uint64(0)
			for g.May(after + n + 1) {
				n++
			}
			if got := g.Left(after); got != n {
				t.Errorf("the limit is %d: Left(%d) = %d, and %d may be sent", limit, after, got, n)
			}
		}
	}
}

func TestProcessesThatThereAreNot(t *testing.T) { // P17.1, P0.1: of them nothing is told, and they aren't gone
	for _, n := range []int{1, 2, 3, 63, 64} {
		w := watch(t, n, 0)
		for p := range n {
			w.tell(p, 7)
		}
		for _, p := range append(slices.Clone(strange), n, n+1, 2*n, -n, n-65, n+64) {
			if p >= 0 && p < n {
				continue
			}
			for _, upto := range []uint64{0, 1, 7, 8, over} {
				if w.tell(p, upto) {
					w.fail("there is no such process")
				}
			}
			w.of(p)
			if w.gone(p) != 0 || w.gone(p, p) != 0 {
				w.fail("there is no such process")
			}
		}
		if got := w.gone(append(slices.Clone(strange), n-1, n)...); got != min(1, n-1) {
			w.fail("it is %d", got)
		}
		wantLimit(t, w.g, 7)
	}
}

func TestGoneOfNone(t *testing.T) { // P17.1, P0.5
	w := watch(t, 3, 0)
	w.tellAll(3, 2, 1)
	for range 2 {
		if w.gone() != 0 || w.gone([]int{}...) != 0 || w.gone(nil...) != 0 {
			w.fail("of none some are gone")
		}
		wantLimit(t, w.g, 1)
	}
}

func TestNilGrants(t *testing.T) { // P17.1, P0.1: they let nothing be sent
	var g *grant.Grants
	for range 2 {
		for _, p := range append(slices.Clone(strange), 0, 1, 63) {
			for _, upto := range []uint64{0, 1, 5, last, over} {
				if g.Tell(p, upto) || g.May(upto) || g.Left(upto) != 0 {
					t.Errorf("Tell(%d, %d), May, Left = %t, %t, %d", p, upto, g.Tell(p, upto), g.May(upto), g.Left(upto))
				}
			}
			if n := g.Gone(p, 0, 1); n != 0 || g.Of(p) != 0 {
				t.Errorf("Gone(%d, 0, 1), Of = %d, %d", p, n, g.Of(p))
			}
		}
		if n := g.Gone(); n != 0 || g.Limit() != 0 {
			t.Errorf("Gone, Limit = %d, %d", n, g.Limit())
		}
	}
}

func TestWhatIsHandedInIsNotKept(t *testing.T) { // P0.4: nor is it changed, nor the room behind its end
	g := grant.New(5, 0)
	for p, upto := range []uint64{9, 1, 2, 3, 4} {
		g.Tell(p, upto)
	}
	l := []int{1, 2, 3, 4}
	wantGone(t, g, 1, 2, l[:1]...)
	if !slices.Equal(l, []int{1, 2, 3, 4}) {
		t.Errorf("what is handed in is changed: %d", l)
	}
	l[0] = 2
	wantLimit(t, g, 2)
	wantGone(t, g, 1, 3, l[1:2]...)
	fill(l, 3)
	wantLimit(t, g, 3)
	wantGone(t, g, 1, 4, l...)
	if !slices.Equal(l, []int{3, 3, 3, 3}) {
		t.Errorf("what is handed in is changed: %d", l)
	}
}

func TestGrantsShareNothing(t *testing.T) { // P0.4, P0.6
	a, b := watch(t, 3, 0), watch(t, 3, 1)
	a.tellAll(1, 2, 3)
	b.look()
	b.tellAll(9, 8, 7)
	a.gone(2)
	b.look()
	b.gone(0)
	a.look()
	wantLimit(t, a.g, 1)
	wantLimit(t, b.g, 7)
}

func TestSmallRows(t *testing.T) { // P17.1, P17.2: all rows of four calls of these
	calls := []func(w *watched){
		func(w *watched) { w.tell(0, 1) },
		func(w *watched) { w.tell(0, 3) },
		func(w *watched) { w.tell(1, 2) },
		func(w *watched) { w.tell(1, over) },
		func(w *watched) { w.tell(2, 1) },
		func(w *watched) { w.tell(2, 2) },
		func(w *watched) { w.gone(0) },
		func(w *watched) { w.gone(1) },
		func(w *watched) { w.gone(2, 0) },
		func(w *watched) { w.gone(2, 3, -1, 2) },
	}
	n := len(calls)
	for i := range n * n * n * n {
		for me := range 3 {
			w := watch(t, 3, me)
			for rest, j := i, 0; j < 4; rest, j = rest/n, j+1 {
				calls[rest%n](w)
			}
		}
	}
}

// someCall tells, mostly, of a process; sometimes some are gone. It tells what came of it.
func someCall(dice *rand.Rand, w *watched) string {
	limit := w.limit
	what := ""
	switch dice.Intn(8) {
	case 0:
		var l []int
		for range dice.Intn(3) {
			l = append(l, dice.Intn(w.n+2)-1)
		}
		what = fmt.Sprint("gone ", w.gone(l...) > 0)
	default:
		p := dice.Intn(w.n+2) - 1
		what = fmt.Sprint("told ", w.tell(p, w.limit+uint64(dice.Intn(6))))
	}
	return fmt.Sprint(what, ", rises ", w.limit > limit)
}

func TestRandomRows(t *testing.T) { // P17.1, P17.2: the limit never falls, whatever is told, and whoever is gone
	dice := rand.New(rand.NewSource(171))
	came := map[string]int{}
	for range 60 {
		for _, n := range []int{1, 2, 3, 5, 9, 20} {
			w := watch(t, n, dice.Intn(n))
			for range 60 {
				came[someCall(dice, w)]++
			}
		}
	}
	for _, what := range []string{"gone true, rises true", "gone true, rises false", "gone false, rises false", "told true, rises true", "told true, rises false", "told false, rises false"} {
		if came[what] < 100 {
			t.Errorf("of %q too few came: %v", what, came)
		}
	}
	if came["gone false, rises true"]+came["told false, rises true"] > 0 {
		t.Errorf("the limit rises of nothing: %v", came)
	}
}

func TestTheLimitNeverFalls(t *testing.T) { // P17.2: told by the answers alone
	dice := rand.New(rand.NewSource(172))
	for range 200 {
		n := 1 + dice.Intn(8)
		me := dice.Intn(n)
		g := grant.New(n, me)
		var limit uint64
		gone := make([]bool, n)
		for range 80 {
			p := dice.Intn(n)
			if dice.Intn(10) == 0 {
				g.Gone(p)
				gone[p] = p != me
			} else {
				g.Tell(p, uint64(dice.Intn(30)))
			}
			if g.Limit() < limit {
				t.Fatalf("the limit falls from %d to %d", limit, g.Limit())
			}
			limit = g.Limit()
			for q := range n {
				if !gone[q] && g.Of(q) < limit {
					t.Fatalf("%d isn't gone, and told %d; the limit is %d", q, g.Of(q), limit)
				}
			}
		}
	}
}

func TestAnswersHangOnTheRowOfCallsAlone(t *testing.T) { // P0.6
	var want []string
	for range 3 {
		dice := rand.New(rand.NewSource(173))
		w := watch(t, 12, 7)
		var got []string
		for range 300 {
			got = append(got, fmt.Sprint(someCall(dice, w), w.g.Limit(), w.g.Left(3), w.g.May(9), w.g.Of(5)))
		}
		if want != nil && !slices.Equal(got, want) {
			t.Errorf("one row of calls, two grants: %q, %q", got, want)
		}
		want = got
	}
}

// FuzzRow reads how many there are, who I am, and calls of bytes: who is told of or gone, and up to what.
func FuzzRow(f *testing.F) { // P17.1, P17.2
	f.Add([]byte{4, 1, 0, 3, 1, 5, 128, 0})
	f.Add([]byte{5, 2, 0, 6, 2, 8, 1, 4, 3, 3, 129, 2, 1, 9, 131, 0, 2, 20})
	f.Add([]byte{0, 255, 0, 1, 255, 255, 3, 0})
	f.Fuzz(func(t *testing.T, b []byte) {
		if len(b) < 2 {
			return
		}
		w := watch(t, int(b[0])-2, int(b[1])-1)
		for b = b[2:]; len(b) >= 2 && len(w.calls) < 60; b = b[2:] {
			p, x := int(b[0]%128)-2, b[1]
			switch {
			case b[0] >= 128 && x < 128:
				w.gone(p)
			case b[0] >= 128:
				w.gone(p, int(x%64), p+1)
			case x < 200:
				w.tell(p, uint64(x))
			default:
				w.tell(p, over>>(x%64))
			}
		}
	})
}
