package matrix_test

import (
	"fmt"
	"math/rand"
	"slices"
	"testing"

	"unison/api"
	"unison/matrix"
)

func TestExample(t *testing.T) { // P18.1, P18.2
	m := matrix.New(2)
	m.Tell(0, 0, nums(3), nil)
	wantTogether(t, m, nums(0, 0), 0, nums(0, 0))
	m.Tell(1, 0, nums(1), nil)
	wantTogether(t, m, nums(1, 0), 0, nums(0, 0))
}

func TestARow(t *testing.T) { // P18.1, P18.2: with the answers written out
	m := matrix.New(3)
	for p := range 3 {
		wantRow(t, m, p, 0, nums(0, 0, 0), nums(0, 0, 0))
	}
	wantTogether(t, m, nums(0, 0, 0), 0, nums(0, 0, 0))
	wantHolders(t, m, 0, 1)
	m.Tell(0, 4, nums(2, 1, 3), nums(5, 1, 3))
	wantRow(t, m, 0, 4, nums(2, 1, 3), nums(5, 1, 3))
	wantTogether(t, m, nums(0, 0, 0), 0, nums(5, 1, 3))
	m.Tell(2, 7, nums(1, 1), nums(2, 6, 4, 9))
	wantRow(t, m, 2, 7, nums(1, 1, 0), nums(2, 6, 4))
	wantTogether(t, m, nums(0, 0, 0), 0, nums(5, 6, 4))
	m.Tell(1, 3, nums(3, 2, 1), nums(4, 2, 2))
	wantTogether(t, m, nums(1, 1, 0), 3, nums(5, 6, 4))
	wantHolders(t, m, 0, 2, 0, 1, 2)
	wantHolders(t, m, 0, 3, 0, 1)
	wantHolders(t, m, 0, 5, 0)
	wantHolders(t, m, 0, 6)
	wantHolders(t, m, 1, 2, 1, 2)
	wantHolders(t, m, 2, 3, 0, 2)
	m.Tell(2, 5, nums(0, 2, 2), nil) // less of some, and more of others
	wantRow(t, m, 2, 7, nums(1, 2, 2), nums(2, 6, 4))
	wantTogether(t, m, nums(1, 1, 1), 3, nums(5, 6, 4))
	m.Tell(3, 9, nums(9, 9, 9), nums(9, 9, 9))
	wantTogether(t, m, nums(1, 1, 1), 3, nums(5, 6, 4))
	wantGone(t, m, 1, 1, 3, 1, -1)
	wantTogether(t, m, nums(1, 1, 2), 4, nums(5, 6, 4))
	wantHolders(t, m, 0, 2, 0, 2)
	wantGone(t, m, 1, 0, 1)
	wantTogether(t, m, nums(1, 2, 2), 7, nums(5, 6, 4))
	wantHolders(t, m, 0, 3)
	m.Tell(0, 8, nil, nums(7))
	wantRow(t, m, 0, 8, nums(2, 1, 3), nums(7, 1, 3))
	wantTogether(t, m, nums(1, 2, 2), 7, nums(7, 6, 4))
	wantGone(t, m, 1, 2)
	wantTogether(t, m, nums(0, 0, 0), 0, nums(7, 6, 4))
	wantHolders(t, m, 1, 1)
}

// permutations are all orders of the numbers below one.
func permutations(n int) [][]int {
	l := [][]int{{}}
	for i := range n {
		var longer [][]int
		for _, order := range l {
			for at := range i + 1 {
				longer = append(longer, slices.Insert(slices.Clone(order), at, i))
			}
		}
		l = longer
	}
	return l
}

func TestToldInAllOrders(t *testing.T) { // P18.1, P18.2: each tells once, or all that one tells comes in several pieces
	for n := 1; n <= 5; n++ {
		for _, order := range permutations(n) {
			w := watch(t, n)
			for _, p := range order {
				w.tell(p, uint64(10+p), all(p+1, uint64(p+1)), all(n, uint64(9-p)))
			}
			stable := all(n, 0)
			stable[0] = 1 // the process 0 has delivered of itself alone
			wantTogether(t, w.m, stable, 10, all(n, 9))
		}
	}
	pieces := [][3][]uint64{{nums(5), nums(1, 2), nums(3)}, {nums(2), nums(4, 1, 1), nums(0, 7)}, {nums(1), nums(0, 9), nums(2, 2, 2)}, {nums(9), nil, nums(0, 0, 4)}}
	for _, order := range permutations(len(pieces)) {
		w := watch(t, 3)
		for _, i := range order {
			w.tell(1, pieces[i][0][0], pieces[i][1], pieces[i][2])
		}
		wantRow(t, w.m, 1, 9, nums(4, 9, 1), nums(3, 7, 4))
	}
}

func TestGoneInAllOrders(t *testing.T) { // P18.1, P18.2: one at a time, and many at once, till nobody is left
	for n := 1; n <= 5; n++ {
		for _, order := range permutations(n) {
			one, many := watch(t, n), watch(t, n)
			for p := range n {
				x := []uint64{5, 2, 4, 1, 3}[p]
				one.tell(p, x, all(n, x+1), all(n, x+2))
				many.tell(p, x, all(n, x+1), all(n, x+2))
			}
			most := one.m.Most()
			for i, p := range order {
				if one.gone(p) != 1 {
					one.fail("it wasn't")
				}
				if i < n-1 {
					wantTogether(t, one.m, all(n, one.m.Least()+1), one.m.Least(), most)
				}
			}
			if many.gone(order...) != n {
				many.fail("they weren't")
			}
			wantTogether(t, one.m, all(n, 0), 0, most)
			wantTogether(t, many.m, all(n, 0), 0, most)
		}
	}
}

func TestToldAndGoneInAllOrders(t *testing.T) { // P18.1, P18.2: 0 and 1 tell, and one that is gone does; two are gone
	for _, order := range permutations(6) {
		w := watch(t, 4)
		for _, x := range order {
			switch x {
			case 0, 1, 2:
				w.tell(x, uint64(x+4), nums(5, 6, 7, 8)[x:], nums(1, 9, 2)[:x+1])
			case 3:
				w.tell(2, 2, nums(0, 12), nums(0, 0, 0, 6))
			default:
				w.gone(x-2, x-2)
			}
		}
		wantTogether(t, w.m, nums(5, 6, 7, 0), 4, nums(1, 9, 2, 6))
		wantRow(t, w.m, 2, 6, nums(7, 12, 0, 0), nums(1, 9, 2, 6))
		wantHolders(t, w.m, 1, 9, 1)
		wantHolders(t, w.m, 0, 1, 0, 1)
	}
}

func TestOneAlone(t *testing.T) { // P18.1, P18.2: what it told is all there is, till it is gone
	for _, n := range []int{least, -1, 0, 1} {
		w := watch(t, n)
		wantTogether(t, w.m, nums(0), 0, nums(0))
		w.tell(0, 3, nums(2, 9), nums(4, 9))
		wantRow(t, w.m, 0, 3, nums(2), nums(4))
		wantTogether(t, w.m, nums(2), 3, nums(4))
		w.tell(1, 9, nums(9), nums(9))
		wantTogether(t, w.m, nums(2), 3, nums(4))
		wantHolders(t, w.m, 0, 4, 0)
		wantHolders(t, w.m, 0, 5)
		wantHolders(t, w.m, 1, 4)
		wantGone(t, w.m, 1, 1, 0, 0)
		w.out[0] = true
		w.look()
		wantTogether(t, w.m, nums(0), 0, nums(4))
		wantHolders(t, w.m, 0, 4)
		w.tell(0, 5, nums(5), nums(5))
		wantRow(t, w.m, 0, 5, nums(5), nums(5))
		wantTogether(t, w.m, nums(0), 0, nums(5))
	}
}

func TestTwo(t *testing.T) { // P18.1, P18.2: whoever told less, of whichever sender, and whoever is gone
	for a := range uint64(4) {
		for b := range uint64(4) {
			for out := range 2 {
				w := watch(t, 2)
				w.tell(0, a, nums(a, 3-b), nums(b, a))
				w.tell(1, b, nums(b, 3-a), nums(a, 3))
				wantTogether(t, w.m, nums(min(a, b), 3-max(a, b)), min(a, b), nums(max(a, b), 3))
				w.gone(out)
				stays := 1 - out
				wantTogether(t, w.m, w.m.Done(stays), w.m.Inst(stays), nums(max(a, b), 3))
				w.gone(stays)
				wantTogether(t, w.m, nums(0, 0), 0, nums(max(a, b), 3))
			}
		}
	}
}

func TestMany(t *testing.T) { // P18.1, P18.2: up to MaxProcs, and whoever has least, of whichever sender
	for _, n := range []int{3, 31, 32, 33, 63, maxProcs} {
		for _, p := range []int{0, 1, n / 2, n - 2, n - 1} {
			from := (p + n/3) % n
			w := watch(t, n)
			for q := range n {
				x := uint64(100 + (q+n-p)%n) // the least one is p's
				w.tell(q, x, all(n, x), all(n, x))
			}
			wantTogether(t, w.m, all(n, 100), 100, all(n, uint64(99+n)))
			w.tell(p, 200, first(from, 200), first(from, 300))
			stable, most := all(n, 100), all(n, uint64(99+n))
			stable[from], most[from] = 101, 300
			wantTogether(t, w.m, stable, 101, most)
			wantHolders(t, w.m, uint8(from), 300, p)
			w.gone(p)
			wantTogether(t, w.m, all(n, 101), 101, most)
			wantHolders(t, w.m, uint8(from), 300)
			var rest []int
			for q := range n {
				if q != p {
					rest = append(rest, q)
				}
			}
			wantHolders(t, w.m, uint8(from), 101, rest...)
			if w.gone(rest[1:]...) != n-2 {
				w.fail("they weren't")
			}
			wantTogether(t, w.m, all(n, w.m.Inst(rest[0])), w.m.Inst(rest[0]), most)
		}
	}
}

func TestGroupsOfWrongSizes(t *testing.T) { // P18.1: below 1, above MaxProcs, and between
	for _, c := range [][2]int{
		{least, 1}, {least + 1, 1}, {-1 << 32, 1}, {-64, 1}, {-2, 1}, {-1, 1}, {0, 1}, {1, 1}, {2, 2}, {3, 3}, {63, 63}, {64, 64},
		{65, 64}, {66, 64}, {128, 64}, {255, 64}, {256, 64}, {257, 64}, {1 << 16, 64}, {1 << 31, 64}, {1 << 32, 64}, {1<<32 + 1, 64}, {greatest, 64},
	} {
		m := matrix.New(c[0])
		for p := range 300 {
			m.Tell(p, 1, all(300, 2), all(300, 3))
			inst, done, held := uint64(0), []uint64(nil), []uint64(nil)
			if p < c[1] {
				inst, done, held = 1, all(c[1], 2), all(c[1], 3)
			}
			wantRow(t, m, p, inst, done, held)
			stable, least := all(c[1], 0), uint64(0)
			if p >= c[1]-1 {
				stable, least = all(c[1], 2), 1
			}
			wantTogether(t, m, stable, least, all(c[1], 3))
		}
		for from := range 256 {
			if got := m.Holders(api.ID{From: uint8(from), Seq: 1}); (len(got) == c[1]) != (from < c[1]) || len(got) > 0 && from >= c[1] {
				t.Errorf("New(%d): Holders of %d: %d", c[0], from, got)
			}
		}
		if n := m.Gone(-1, 0, c[1]-1, c[1]); n != min(2, c[1]) {
			t.Errorf("New(%d): Gone = %d", c[0], n)
		}
	}
}

func TestToldAgain(t *testing.T) { // P18.1, P18.2: the same, one less and one more, of one sender and of all
	for _, x := range []uint64{1, 2, 3, 255, 256, 1 << 32, last, 1 << 63, over - 1} {
		for p := range 3 {
			for from := range 3 {
				w := watch(t, 3)
				for q := range 3 {
					w.tell(q, x, all(3, x), all(3, x))
				}
				for _, y := range []uint64{x, x - 1, 0} { // nothing of that is more
					w.tell(p, y, first(from, y), first(from, y))
					w.tell(p, y, all(3, y), all(3, y))
					wantRow(t, w.m, p, x, all(3, x), all(3, x))
					wantTogether(t, w.m, all(3, x), x, all(3, x))
				}
				more := all(3, x)
				more[from]++
				w.tell(p, 0, first(from, x+1), nil)
				wantRow(t, w.m, p, x, more, all(3, x))
				w.tell(p, 0, nil, first(from, x+1))
				wantRow(t, w.m, p, x, more, more)
				w.tell(p, x+1, nil, nil)
				wantRow(t, w.m, p, x+1, more, more)
				wantTogether(t, w.m, all(3, x), x, more)
				w.tell(p, x, all(3, x+1), all(3, x+1))
				wantRow(t, w.m, p, x+1, all(3, x+1), all(3, x+1))
				wantTogether(t, w.m, all(3, x), x, all(3, x+1))
			}
		}
	}
}

func TestSomeRiseAndSomeDoNot(t *testing.T) { // P18.1, P18.2: each number by itself, whatever becomes of the others
	for i := range 27 {
		w := watch(t, 3)
		w.tell(1, 5, nums(5, 5, 5), nums(6, 6, 6))
		told := nums(uint64(4+i%3), uint64(4+i/3%3), uint64(4+i/9))
		w.tell(1, told[0], told, nums(7, 5, 6))
		for from := range told {
			told[from] = max(5, told[from])
		}
		wantRow(t, w.m, 1, told[0], told, nums(7, 6, 6))
	}
}

func TestVectorsOfAllLengths(t *testing.T) { // P18.1: of n numbers, of fewer, of none, nil, and of more than n
	for _, n := range []int{1, 2, 3, 5, 63, 64} {
		for _, a := range []int{0, 1, n - 1, n, n + 1, n + 5, 64, 65, 1000} {
			for _, b := range []int{0, 1, n - 1, n, n + 1, n + 5, 64, 65, 1000} {
				w := watch(t, n)
				w.tell(n-1, 1, all(a, 4), all(b, 5))
				done, held := slices.Concat(all(min(a, n), 4), all(max(0, n-a), 0)), slices.Concat(all(min(b, n), 5), all(max(0, n-b), 0))
				wantRow(t, w.m, n-1, 1, done, held)
				if n == 1 {
					wantTogether(t, w.m, done, 1, held)
				} else {
					wantTogether(t, w.m, all(n, 0), 0, held)
				}
			}
		}
		w := watch(t, n)
		w.tell(0, 2, nil, nil)
		w.tell(0, 2, nums(), nums())
		wantRow(t, w.m, 0, 2, all(n, 0), all(n, 0))
		w.tell(0, 2, append(all(n, 0), 9, over), append(all(n, 0), over))
		wantRow(t, w.m, 0, 2, all(n, 0), all(n, 0))
	}
}

func TestInstOfZeroAndOfTheGreatestNumber(t *testing.T) { // P18.1, P18.2
	for n := 1; n <= 4; n++ {
		w := watch(t, n)
		for p := range n {
			w.tell(p, 0, nil, nil)
			w.tell(p, over, nil, nil)
			w.tell(p, over-1, nil, nil)
			w.tell(p, 0, nil, nil)
			wantRow(t, w.m, p, over, all(n, 0), all(n, 0))
			if least := w.m.Least(); (least == over) != (p == n-1) || least > 0 && p < n-1 {
				w.fail("the least is %d", least)
			}
		}
	}
}

func TestNumbersOfZeroAndTheGreatestOnes(t *testing.T) { // P18.1, P18.2
	for _, x := range []uint64{0, 1, last, last + 1, 1 << 63, over - 1, over} {
		for n := 1; n <= 4; n++ {
			for from := range n {
				w := watch(t, n)
				for p := range n {
					w.tell(p, 0, first(from, x), first(from, x))
					w.tell(p, 0, first(from, 0), all(n, 0))
				}
				want := all(n, 0)
				want[from] = x
				wantTogether(t, w.m, want, 0, want)
			}
		}
	}
}

func TestDoneAndHeldAreEachTheirOwn(t *testing.T) { // P18.1: a process may tell that it has done what it doesn't hold any more, or not yet
	w := watch(t, 2)
	w.tell(0, 0, nums(5, 1), nums(2, 3))
	w.tell(1, 0, nums(4, 2), nums(1, 8))
	wantTogether(t, w.m, nums(4, 1), 0, nums(2, 8))
	wantHolders(t, w.m, 0, 2, 0)
	wantHolders(t, w.m, 0, 3)
	wantHolders(t, w.m, 1, 3, 0, 1)
}

func TestGoneTwice(t *testing.T) { // P18.1: in one Gone, and in two; among others, too
	for _, c := range []struct {
		gone [][]int
		want []int
	}{
		{[][]int{{1}, {1}}, []int{1, 0}},
		{[][]int{{1, 1}}, []int{1}},
		{[][]int{{1, 1, 1}, {1, 1}}, []int{1, 0}},
		{[][]int{{1, 2, 1}}, []int{2}},
		{[][]int{{2, 1, 1, 2}, {1, 2, 3}, {3, 2, 1}}, []int{2, 1, 0}},
		{[][]int{{0, 0}}, []int{1}},
		{[][]int{{0, 1, 0}}, []int{2}},
		{[][]int{{1, 2, 3, 4, 0}, {0, 1, 2, 3, 4}}, []int{5, 0}},
		{[][]int{{4, 4, 3, 3, 2, 2, 1, 1, 0, 0}}, []int{5}},
		{[][]int{{-1, 5, 3}, {5, -1}, {3, 5}}, []int{1, 0, 0}},
		{[][]int{{}, {4}, nil, {4}}, []int{0, 1, 0, 0}},
	} {
		w := watch(t, 5)
		for p := range 5 {
			w.tell(p, uint64(p), all(5, uint64(p)), all(5, uint64(p)))
		}
		for i, l := range c.gone {
			if got := w.gone(l...); got != c.want[i] {
				w.fail("it is %d, want %d", got, c.want[i])
			}
		}
	}
}

func TestTheLeastOneIsGone(t *testing.T) { // P18.1, P18.2: what is stable rises to the next one, of each sender by itself
	for _, c := range []struct {
		gone   []int
		stable []uint64
		least  uint64
	}{
		{[]int{}, nums(1, 2, 3, 0), 2},
		{[]int{0}, nums(4, 2, 3, 0), 2},
		{[]int{1}, nums(1, 6, 3, 0), 2},
		{[]int{2}, nums(1, 2, 9, 0), 2},
		{[]int{3}, nums(1, 2, 3, 7), 5},
		{[]int{0, 1}, nums(4, 6, 3, 0), 2},
		{[]int{0, 2}, nums(8, 2, 11, 0), 2},
		{[]int{1, 2}, nums(1, 10, 9, 0), 2},
		{[]int{2, 3}, nums(1, 2, 9, 8), 6},
		{[]int{3, 0, 1}, nums(4, 6, 3, 7), 5},
		{[]int{0, 1, 2}, nums(12, 10, 11, 0), 2},
		{[]int{1, 2, 3}, nums(1, 11, 9, 8), 8},
		{[]int{0, 2, 3}, nums(8, 2, 12, 9), 6},
		{[]int{0, 1, 2, 3}, nums(0, 0, 0, 0), 0},
	} {
		w := watch(t, 4)
		w.tell(0, 8, nums(1, 11, 9, 8), nil)
		w.tell(1, 6, nums(8, 2, 12, 9), nil)
		w.tell(2, 5, nums(4, 6, 3, 7), nil)
		w.tell(3, 2, nums(12, 10, 11), nil)
		w.gone(c.gone...)
		wantTogether(t, w.m, c.stable, c.least, all(4, 0))
	}
}

func TestTheGreatestOneIsGone(t *testing.T) { // P18.1, P18.2: what it holds counts for Most still, and it holds nothing for Holders
	for p := range 4 {
		w := watch(t, 4)
		for q := range 4 {
			w.tell(q, 1, nil, all(4, uint64(10+(q+3-p)%4))) // p's is the greatest one
		}
		wantHolders(t, w.m, 2, 13, p)
		w.gone(p)
		wantTogether(t, w.m, all(4, 0), 1, all(4, 13))
		wantHolders(t, w.m, 2, 13)
		wantHolders(t, w.m, 2, 12, (p+3)%4)
		w.tell((p+1)%4, 1, nil, nums(0, 14, 12))
		wantTogether(t, w.m, all(4, 0), 1, nums(13, 14, 13, 13))
		wantHolders(t, w.m, 1, 13, (p+1)%4)
		w.gone(0, 1, 2, 3)
		wantTogether(t, w.m, all(4, 0), 0, nums(13, 14, 13, 13))
	}
}

func TestOneThatIsGoneTellsMore(t *testing.T) { // P18.1, P18.2: that is what it told, and Most; but it doesn't count else, and isn't back
	w := watch(t, 3)
	w.tell(0, 2, nums(2, 2, 2), nums(3, 3, 3))
	w.tell(1, 6, nums(6, 5, 4), nums(8, 8, 8))
	w.tell(2, 4, nums(5, 5, 5), nums(7, 7, 7))
	w.gone(0)
	for _, x := range []uint64{2, 1, 3, 5, 4, 6, 100, over} {
		w.tell(0, x, all(3, x), nums(x))
		wantTogether(t, w.m, nums(5, 5, 4), 4, nums(max(8, w.m.Held(0)[0]), 8, 8))
		wantHolders(t, w.m, 0, 1, 1, 2)
	}
	wantRow(t, w.m, 0, over, all(3, over), nums(over, 3, 3))
	w.gone(0, 2)
	wantTogether(t, w.m, nums(6, 5, 4), 6, nums(over, 8, 8))
	w.gone(1)
	w.tell(1, 9, nums(9, 9, 9), nums(9, 9))
	wantTogether(t, w.m, nums(0, 0, 0), 0, nums(over, 9, 8))
	wantRow(t, w.m, 1, 9, nums(9, 9, 9), nums(9, 9, 8))
}

func TestGoneAheadOfItsWord(t *testing.T) { // P18.1, P18.2: one that told nothing is gone, and tells then
	w := watch(t, 2)
	if w.gone(1) != 1 {
		w.fail("it wasn't")
	}
	w.tell(0, 5, nums(4, 3), nums(2))
	wantTogether(t, w.m, nums(4, 3), 5, nums(2, 0))
	w.tell(1, 1, nums(1, 1), nums(1, 1))
	wantTogether(t, w.m, nums(4, 3), 5, nums(2, 1))
	wantRow(t, w.m, 1, 1, nums(1, 1), nums(1, 1))
	wantHolders(t, w.m, 0, 1, 0)
	wantHolders(t, w.m, 1, 1)
}

func TestAllGone(t *testing.T) { // P18.1, P18.2: noughts, 0, nobody; what each one told stands
	for _, n := range []int{1, 2, 5, 64} {
		w := watch(t, n)
		for p := range n {
			w.tell(p, 7, all(n, 3), all(n, 4))
		}
		for p := range n {
			wantTogether(t, w.m, all(n, 3), 7, all(n, 4))
			w.gone(p)
		}
		wantTogether(t, w.m, all(n, 0), 0, all(n, 4))
		wantHolders(t, w.m, 0, 1)
		wantRow(t, w.m, n-1, 7, all(n, 3), all(n, 4))
		w.tell(0, 9, all(n, 9), all(n, 9))
		wantTogether(t, w.m, all(n, 0), 0, all(n, 9))
		wantHolders(t, w.m, 0, 1)
		if w.gone(0, n-1) != 0 {
			w.fail("all were gone")
		}
	}
}

func TestHolders(t *testing.T) { // P18.1: of what is held, one less and one more, in rising order, whoever told first
	for _, x := range []uint64{1, 2, 3, 256, 1 << 32, last - 1, last} {
		for _, order := range permutations(4) {
			m := matrix.New(4)
			for _, p := range order {
				m.Tell(p, 0, all(4, over), first(2, x-1+uint64(p)%3)) // one less, it, one more, one less
			}
			if x > 1 {
				wantHolders(t, m, 2, x-1, 0, 1, 2, 3)
			}
			wantHolders(t, m, 2, x, 1, 2)
			if x < last {
				wantHolders(t, m, 2, x+1, 2)
			} else {
				wantHolders(t, m, 2, x+1)
			}
			for _, from := range []uint8{0, 1, 3} { // what is done isn't asked
				wantHolders(t, m, from, 1)
				wantHolders(t, m, from, x)
			}
		}
	}
}

func TestHoldersOfIDsThatMayNotBe(t *testing.T) { // P18.1, P0.1: of a sender from n on, of Seq 0 and above the greatest one
	for _, n := range []int{1, 2, 3, 63, 64} {
		w := watch(t, n)
		for p := range n {
			w.tell(p, over, all(256, over), all(256, over))
		}
		for from := range 256 {
			for _, seq := range []uint64{0, 1, 2, last - 1, last, last + 1, last + 2, 1 << 63, over - 1, over} {
				id := api.ID{From: uint8(from), Seq: seq}
				w.wantHolders(id)
				want := 0
				if from < n && seq != 0 && seq <= last {
					want = n
				}
				if got := len(w.m.Holders(id)); got != want {
					t.Errorf("of %d: %d hold %d, want %d", n, got, id, want)
				}
			}
		}
	}
}

func TestProcessesThatThereAreNot(t *testing.T) { // P18.1, P0.1: of them nothing is told, and they aren't gone
	for _, n := range []int{1, 2, 3, 63, 64} {
		w := watch(t, n)
		for p := range n {
			w.tell(p, 7, all(n, 5), all(n, 6))
		}
		for _, p := range append(slices.Clone(strange), n, n+1, 2*n, -n, n-65, n+64) {
			if p >= 0 && p < n {
				continue
			}
			w.tell(p, over, all(n, over), all(n, over))
			w.tell(p, 0, nil, nil)
			wantRow(t, w.m, p, 0, nil, nil)
			if w.gone(p) != 0 || w.gone(p, p) != 0 {
				w.fail("there is no such process")
			}
		}
		wantTogether(t, w.m, all(n, 5), 7, all(n, 6))
		if got := w.gone(append(slices.Clone(strange), n-1, n)...); got != 1 {
			w.fail("it is %d", got)
		}
	}
}

func TestGoneOfNone(t *testing.T) { // P18.1, P0.5
	w := watch(t, 2)
	w.tell(0, 3, nums(2, 2), nums(2, 2))
	w.tell(1, 2, nums(1, 3), nums(1, 3))
	for range 2 {
		if w.gone() != 0 || w.gone([]int{}...) != 0 || w.gone(nil...) != 0 {
			w.fail("of none some are gone")
		}
		wantTogether(t, w.m, nums(1, 2), 2, nums(2, 3))
	}
}

func TestNilMatrix(t *testing.T) { // P18.1, P0.1: it has nothing
	var m *matrix.Matrix
	for range 2 {
		for _, p := range append(slices.Clone(strange), 0, 1, 63) {
			m.Tell(p, over, all(64, over), all(65, 1))
			m.Tell(p, 0, nil, nil)
			wantRow(t, m, p, 0, nil, nil)
			wantGone(t, m, 0, p, 0, 1)
			wantTogether(t, m, nil, 0, nil)
		}
		wantGone(t, m, 0)
		for _, from := range []uint8{0, 1, 63, 64, 255} {
			for _, seq := range []uint64{0, 1, last, last + 1, over} {
				wantHolders(t, m, from, seq)
			}
		}
	}
}

func TestWhatIsHandedInIsNotKept(t *testing.T) { // P0.4: nor is it changed, nor the room behind its end
	m := matrix.New(3)
	done, held := nums(1, 2, 3, 4, 5), nums(6, 7, 8, 9, 10)
	m.Tell(0, 1, done[:3], held[:3])
	m.Tell(1, 1, done[1:], held[:2])
	m.Tell(2, 1, done[:1], held)
	if !slices.Equal(done, nums(1, 2, 3, 4, 5)) || !slices.Equal(held, nums(6, 7, 8, 9, 10)) {
		t.Errorf("what is handed in is changed: %d, %d", done, held)
	}
	for _, x := range []uint64{0, 99, over} {
		fill(done, x)
		fill(held, x)
		wantRow(t, m, 0, 1, nums(1, 2, 3), nums(6, 7, 8))
		wantRow(t, m, 1, 1, nums(2, 3, 4), nums(6, 7, 0))
		wantRow(t, m, 2, 1, nums(1, 0, 0), nums(6, 7, 8))
		wantTogether(t, m, nums(1, 0, 0), 1, nums(6, 7, 8))
	}
	l := []int{0, 1, 2}
	wantGone(t, m, 1, l[:1]...)
	if !slices.Equal(l, []int{0, 1, 2}) {
		t.Errorf("what is handed in is changed: %d", l)
	}
	fill(l, 1)
	wantTogether(t, m, nums(1, 0, 0), 1, nums(6, 7, 8))
	wantHolders(t, m, 1, 7, 1, 2)
}

func TestOneListForBothVectors(t *testing.T) { // P0.4: and for two processes, and for two matrices
	l := nums(4, 5)
	a, b := matrix.New(2), matrix.New(2)
	a.Tell(0, 1, l, l)
	a.Tell(1, 1, l, l)
	b.Tell(0, 1, l, l)
	a.Tell(0, 2, nums(6), nums(0, 7))
	wantRow(t, a, 0, 2, nums(6, 5), nums(4, 7))
	wantRow(t, a, 1, 1, nums(4, 5), nums(4, 5))
	wantRow(t, b, 0, 1, nums(4, 5), nums(4, 5))
}

func TestWhatIsToldIsToldOn(t *testing.T) { // P0.4: what a matrix answers is told to it, and to another one
	a, b := watch(t, 3), watch(t, 3)
	a.tell(0, 3, nums(1, 2, 3), nums(4, 5, 6))
	a.m.Tell(1, 3, a.m.Done(0), a.m.Most())
	b.m.Tell(2, 3, a.m.Stable(), a.m.Held(1))
	a.m.Tell(0, 4, nums(9), nums(0, 9))
	wantRow(t, a.m, 1, 3, nums(1, 2, 3), nums(4, 5, 6))
	wantRow(t, b.m, 2, 3, nums(0, 0, 0), nums(4, 5, 6))
}

func TestWhatIsAnsweredIsNew(t *testing.T) { // P0.4: whoever writes into it, and behind its end, changes nothing
	w := watch(t, 3)
	w.tell(0, 3, nums(1, 2, 3), nums(4, 5, 6))
	w.tell(1, 3, nums(3, 2, 1), nums(6, 5, 4))
	w.tell(2, 3, nums(3, 3, 3), nums(5, 5, 5))
	for range 2 {
		lists := [][]uint64{w.m.Stable(), w.m.Most()}
		for p := range 3 {
			lists = append(lists, w.m.Done(p), w.m.Held(p), w.m.Done(p), w.m.Held(p))
		}
		lists = append(lists, w.m.Stable(), w.m.Most())
		want := make([][]uint64, len(lists))
		for i, l := range lists {
			want[i] = slices.Clone(l)
		}
		holders, again := w.m.Holders(api.ID{From: 1, Seq: 5}), w.m.Holders(api.ID{From: 1, Seq: 5})
		fill(holders[:cap(holders)], 9)
		if !slices.Equal(again, w.left()) {
			t.Errorf("two answers share memory: %d", again)
		}
		for i, l := range lists {
			fill(l[:cap(l)], over)
			for j := i + 1; j < len(lists); j++ {
				if !slices.Equal(lists[j], want[j]) {
					t.Errorf("two answers share memory: %d, want %d", lists[j], want[j])
				}
			}
			w.look()
		}
		w.gone(1) // and of one alone
		w.gone(2)
	}
}

func TestMatricesShareNothing(t *testing.T) { // P0.4, P0.6
	a, b := watch(t, 3), watch(t, 3)
	a.tell(0, 1, nums(1, 2, 3), nums(3, 2, 1))
	b.look()
	b.tell(0, 9, nums(9, 8, 7), nums(7, 8, 9))
	a.gone(2)
	b.look()
	b.gone(0)
	a.look()
	wantRow(t, a.m, 0, 1, nums(1, 2, 3), nums(3, 2, 1))
}

func TestSmallRows(t *testing.T) { // P18.1, P18.2: all rows of four calls of these
	calls := []func(w *watched){
		func(w *watched) { w.tell(0, 1, nums(1, 1), nums(2)) },
		func(w *watched) { w.tell(0, 3, nums(0, 2, 2), nums(0, 3, 3, 9)) },
		func(w *watched) { w.tell(1, 2, nums(2), nums(1, 1, 1)) },
		func(w *watched) { w.tell(1, over, all(3, over), all(3, last)) },
		func(w *watched) { w.tell(2, 1, nums(1, 2, 3), nil) },
		func(w *watched) { w.tell(2, 2, nil, nums(3, 2, 1)) },
		func(w *watched) { w.gone(0) },
		func(w *watched) { w.gone(1) },
		func(w *watched) { w.gone(2, 0) },
		func(w *watched) { w.gone(2, 3, -1, 2) },
	}
	n := len(calls)
	for i := range n * n * n * n {
		w := watch(t, 3)
		for rest, j := i, 0; j < 4; rest, j = rest/n, j+1 {
			calls[rest%n](w)
		}
	}
}

// someVector has some numbers, about those of the least one.
func someVector(dice *rand.Rand, n int, about []uint64) []uint64 {
	var l []uint64
	for i := range dice.Intn(n + 3) {
		x := uint64(dice.Intn(5))
		if i < len(about) {
			x += about[i]
		}
		l = append(l, x)
	}
	return l
}

// someCall tells, mostly, of a process; sometimes some are gone. It tells what came of it.
func someCall(dice *rand.Rand, w *watched) string {
	was := w.was
	what := ""
	switch dice.Intn(12) {
	case 0:
		var l []int
		for range dice.Intn(3) {
			l = append(l, dice.Intn(w.n+2)-1)
		}
		what = fmt.Sprint("gone ", w.gone(l...) > 0)
	default:
		p := dice.Intn(w.n+2) - 1
		w.tell(p, was.least+uint64(dice.Intn(4)), someVector(dice, w.n, was.stable), someVector(dice, w.n, was.stable))
		what = "told"
	}
	return fmt.Sprint(what, ", stable ", !slices.Equal(was.stable, w.was.stable), ", most ", !slices.Equal(was.most, w.was.most))
}

func TestRandomRows(t *testing.T) { // P18.1, P18.2: nothing falls as long as somebody is left, whatever is told, and whoever is gone
	dice := rand.New(rand.NewSource(181))
	came := map[string]int{}
	for range 60 {
		for _, n := range []int{1, 2, 3, 5, 9, 20} {
			w := watch(t, n)
			for range 60 {
				came[someCall(dice, w)]++
			}
		}
	}
	for _, what := range []string{
		"gone true, stable true, most false", "gone true, stable false, most false", "gone false, stable false, most false",
		"told, stable true, most true", "told, stable true, most false", "told, stable false, most true", "told, stable false, most false",
	} {
		if came[what] < 100 {
			t.Errorf("of %q too few came: %v", what, came)
		}
	}
	if len(came) != 7 {
		t.Errorf("what is held, or stable, rises of nothing: %v", came)
	}
}

func TestNothingFalls(t *testing.T) { // P18.2: told by the answers alone
	dice := rand.New(rand.NewSource(182))
	for range 200 {
		n := 1 + dice.Intn(6)
		m := matrix.New(n)
		out := map[int]bool{}
		was := ask(m, n)
		for range 80 {
			p := dice.Intn(n)
			if dice.Intn(20) == 0 {
				m.Gone(p)
				out[p] = true
			} else {
				m.Tell(p, uint64(dice.Intn(30)), someVector(dice, n, was.stable), someVector(dice, n, was.most))
			}
			is := ask(m, n)
			if left := len(out) < n; fell(was.row(left), is.row(left)) {
				t.Fatalf("of %d it falls from %d to %d", n, was, is)
			}
			wantDoneByAll(t, n, m, out)
			was = is
		}
	}
}

// wantDoneByAll holds what is stable against what all have done that aren't gone: all have that, and one has no more.
func wantDoneByAll(t *testing.T, n int, m *matrix.Matrix, out map[int]bool) {
	t.Helper()
	for from, x := range m.Stable() {
		just := len(out) == n
		for p := range n {
			if !out[p] && m.Done(p)[from] < x {
				t.Errorf("%d isn't gone, and has done %d; %d is stable", p, m.Done(p), m.Stable())
			}
			just = just || !out[p] && m.Done(p)[from] == x
		}
		if !just {
			t.Errorf("more than %d of %d is stable", x, from)
		}
	}
}

func TestAnswersHangOnTheRowOfCallsAlone(t *testing.T) { // P0.6
	var want []string
	for range 3 {
		dice := rand.New(rand.NewSource(183))
		w := watch(t, 12)
		var got []string
		for range 200 {
			got = append(got, fmt.Sprint(someCall(dice, w), ask(w.m, 12), w.m.Holders(api.ID{From: 5, Seq: 9})))
		}
		if want != nil && !slices.Equal(got, want) {
			t.Errorf("one row of calls, two matrices: %q, %q", got, want)
		}
		want = got
	}
}

// FuzzRow reads how many there are, and calls of bytes: who is told of or gone, and what.
func FuzzRow(f *testing.F) { // P18.1, P18.2
	f.Add([]byte{4, 0, 3, 1, 5, 128, 0})
	f.Add([]byte{5, 1, 4, 2, 1, 2, 1, 0, 3, 1, 2, 1, 3, 2, 0, 129, 1, 2, 9, 1, 9, 1})
	f.Add([]byte{0, 1, 1, 1, 255, 255, 200, 1, 3})
	f.Fuzz(func(t *testing.T, b []byte) {
		if len(b) < 1 {
			return
		}
		next := func() byte { // the last one is followed by noughts
			if len(b) == 0 {
				return 0
			}
			x := b[0]
			b = b[1:]
			return x
		}
		vector := func() []uint64 {
			var l []uint64
			for range next() % 8 {
				x := next()
				l = append(l, uint64(x%64)<<(x/64*20))
			}
			return l
		}
		w := watch(t, int(next()%70)-2)
		for len(b) > 0 && len(w.calls) < 60 {
			p := int(next())
			if p >= 128 {
				w.gone(p%128-2, int(next()%64))
			} else {
				w.tell(p%70-2, uint64(next()), vector(), vector())
			}
		}
	})
}
