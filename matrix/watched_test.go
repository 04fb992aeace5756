package matrix_test

import (
	"fmt"
	"math"
	"slices"
	"strings"
	"testing"

	"unison/api"
	"unison/matrix"
)

const (
	least    = math.MinInt
	greatest = math.MaxInt
	last     = 1 << 62 // the greatest number of a message
	over     = math.MaxUint64
	maxProcs = 64
)

// strange are processes that no matrix has.
var strange = []int{least, least + 1, -1 << 32, -65, -64, -2, -1, maxProcs, maxProcs + 1, 128, 255, 256, 1 << 31, 1 << 32, 1<<32 + 1, greatest - 1, greatest}

// wide is a list with room behind its end.
func wide[T any](l ...T) []T {
	return append(append(make([]T, 0, 2*len(l)), l...), l...)[:len(l)]
}

func fill[T any](l []T, with T) {
	for i := range l {
		l[i] = with
	}
}

func nums(l ...uint64) []uint64 { return l }

// all is a vector of one number, so many times.
func all(n int, x uint64) []uint64 {
	return slices.Repeat([]uint64{x}, n)
}

// first is a vector that has a number for one process alone.
func first(p int, x uint64) []uint64 {
	return append(all(p, 0), x)
}

// watched is a matrix, and beside it what the chapter says of it. Each call is held against that, and the matrix is
// looked at behind it.
type watched struct {
	t          *testing.T
	m          *matrix.Matrix
	n          int
	inst       [maxProcs]uint64
	done, held [maxProcs][maxProcs]uint64 // of a process, of a sender
	out        map[int]bool               // those that are gone
	was        answers                    // as it was looked at before
	calls      []string
}

// answers is what a matrix tells, but for Holders.
type answers struct {
	inst         []uint64
	done, held   [][]uint64
	least        uint64
	stable, most []uint64
}

func watch(t *testing.T, n int) *watched {
	t.Helper()
	w := &watched{t: t, m: matrix.New(n), n: n, out: map[int]bool{}}
	if n < 1 {
		w.n = 1
	}
	if n > maxProcs {
		w.n = maxProcs
	}
	w.called("New(%d)", n)
	w.look()
	return w
}

func (w *watched) called(format string, l ...any) {
	w.calls = append(w.calls, fmt.Sprintf(format, l...))
}

func (w *watched) fail(format string, l ...any) {
	w.t.Helper()
	calls := strings.Join(w.calls[max(0, len(w.calls)-20):], ", ")
	w.t.Fatalf("%.3000s: %s", calls, fmt.Sprintf(format, l...))
}

// left are those that aren't gone.
func (w *watched) left() []int {
	var l []int
	for p := range w.n {
		if !w.out[p] {
			l = append(l, p)
		}
	}
	return l
}

// want is what the matrix should tell.
func (w *watched) want() answers {
	a := answers{stable: all(w.n, 0), most: all(w.n, 0)}
	for p := range w.n {
		a.inst = append(a.inst, w.inst[p])
		a.done = append(a.done, w.done[p][:w.n])
		a.held = append(a.held, w.held[p][:w.n])
	}
	for from := range w.n {
		for p := range w.n {
			if w.held[p][from] > a.most[from] {
				a.most[from] = w.held[p][from]
			}
		}
	}
	for i, p := range w.left() {
		if i == 0 || w.inst[p] < a.least {
			a.least = w.inst[p]
		}
		for from := range w.n {
			if i == 0 || w.done[p][from] < a.stable[from] {
				a.stable[from] = w.done[p][from]
			}
		}
	}
	return a
}

// ask is what a matrix of n processes tells.
func ask(m *matrix.Matrix, n int) answers {
	var a answers
	for p := range n {
		a.inst = append(a.inst, m.Inst(p))
		a.done = append(a.done, m.Done(p))
		a.held = append(a.held, m.Held(p))
	}
	a.least, a.stable, a.most = m.Least(), m.Stable(), m.Most()
	return a
}

func (a answers) same(b answers) bool {
	return slices.Equal(a.inst, b.inst) && slices.EqualFunc(a.done, b.done, slices.Equal[[]uint64]) && slices.EqualFunc(a.held, b.held, slices.Equal[[]uint64]) &&
		a.least == b.least && slices.Equal(a.stable, b.stable) && slices.Equal(a.most, b.most)
}

// row is all of it, one number behind the other; what those that aren't gone make together, only if somebody is left.
func (a answers) row(left bool) []uint64 {
	l := slices.Concat(a.inst, a.most, slices.Concat(a.done...), slices.Concat(a.held...))
	if left {
		l = append(append(l, a.least), a.stable...)
	}
	return l
}

// fell tells whether some of it is less than it was.
func fell(was, is []uint64) bool {
	for i := range was {
		if i < len(is) && is[i] < was[i] {
			return true
		}
	}
	return false
}

// look looks at all that a matrix tells: none of these calls changes anything.
func (w *watched) look() {
	w.t.Helper()
	want, left := w.want(), len(w.left()) > 0
	for range 2 {
		if got := ask(w.m, w.n); !got.same(want) {
			w.fail("it is %d, want %d", got, want)
		}
		for _, p := range []int{-1, w.n} {
			if w.m.Inst(p) != 0 || len(w.m.Done(p)) != 0 || len(w.m.Held(p)) != 0 {
				w.fail("of %d there is %d, %d, %d", p, w.m.Inst(p), w.m.Done(p), w.m.Held(p))
			}
		}
		for _, id := range w.ids() {
			w.wantHolders(id)
		}
	}
	if fell(w.was.row(left), want.row(left)) {
		w.fail("it falls from %d to %d", w.was, want)
	}
	w.was = want
	for _, p := range w.left() {
		if done := w.m.Done(p); fell(want.stable, done) {
			w.fail("%d has done %d, and %d is stable", p, done, want.stable)
		}
	}
}

// ids are some of which the holders are asked: of senders that there are, and that there aren't, about what is held of
// them.
func (w *watched) ids() []api.ID {
	l := []api.ID{{}, {From: uint8(w.n), Seq: 1}, {From: maxProcs, Seq: 1}, {From: 255, Seq: 1}, {Seq: last + 1}, {Seq: over}}
	for _, from := range []int{0, 1, w.n - 2, w.n - 1} {
		if from < 0 || from >= w.n {
			continue
		}
		for _, seq := range []uint64{1, last, w.held[0][from], w.held[w.n-1][from], w.held[w.n/2][from]} {
			l = append(l, api.ID{From: uint8(from), Seq: seq}, api.ID{From: uint8(from), Seq: seq - 1}, api.ID{From: uint8(from), Seq: seq + 1})
		}
	}
	return l
}

func (w *watched) wantHolders(id api.ID) {
	w.t.Helper()
	var want []int
	if int(id.From) < w.n && id.Seq > 0 && !(id.Seq > last) {
		for _, p := range w.left() {
			if w.held[p][id.From] >= id.Seq {
				want = append(want, p)
			}
		}
	}
	if got := w.m.Holders(id); !slices.Equal(got, want) {
		w.fail("Holders(%d) = %d, want %d", id, got, want)
	}
}

// rise lets what was told of a process rise to what is told now.
func (w *watched) rise(of *[maxProcs]uint64, told []uint64) {
	for from := range w.n {
		if from < len(told) && told[from] > of[from] {
			of[from] = told[from]
		}
	}
}

// tell tells of a process, in memory that has room behind its end, and is written into at once.
func (w *watched) tell(p int, inst uint64, done, held []uint64) {
	w.t.Helper()
	w.called("Tell(%d, %d, %d, %d)", p, inst, done, held)
	if p >= 0 && p < w.n {
		if inst > w.inst[p] {
			w.inst[p] = inst
		}
		w.rise(&w.done[p], done)
		w.rise(&w.held[p], held)
	}
	a, b := wide(done...), wide(held...)
	w.m.Tell(p, inst, a, b)
	if !slices.Equal(a[:cap(a)], append(slices.Clone(done), done...)) || !slices.Equal(b[:cap(b)], append(slices.Clone(held), held...)) {
		w.fail("what is handed in is changed: %d, %d", a[:cap(a)], b[:cap(b)])
	}
	for _, x := range []uint64{0, 77, over} {
		fill(a[:cap(a)], x)
		fill(b[:cap(b)], x)
	}
	w.look()
}

// gone tells who is gone, in memory that has room behind its end, and is written into at once.
func (w *watched) gone(l ...int) int {
	w.t.Helper()
	w.called("Gone(%d)", l)
	had := len(w.left())
	for _, p := range l {
		if p >= 0 && p < w.n {
			w.out[p] = true
		}
	}
	want := had - len(w.left())
	handed := wide(l...)
	if got := w.m.Gone(handed...); got != want {
		w.fail("it is %d, want %d", got, want)
	}
	if !slices.Equal(handed[:cap(handed)], append(slices.Clone(l), l...)) {
		w.fail("what is handed in is changed: %d, want %d", handed[:cap(handed)], l)
	}
	for p := range w.n { // and none of these is gone
		fill(handed[:cap(handed)], p)
	}
	w.look()
	return want
}

// wantRow holds what a process told against what is written out.
func wantRow(t *testing.T, m *matrix.Matrix, p int, inst uint64, done, held []uint64) {
	t.Helper()
	if m.Inst(p) != inst || !slices.Equal(m.Done(p), done) || !slices.Equal(m.Held(p), held) {
		t.Errorf("of %d: Inst, Done, Held = %d, %d, %d, want %d, %d, %d", p, m.Inst(p), m.Done(p), m.Held(p), inst, done, held)
	}
}

// wantTogether holds what all make together against what is written out.
func wantTogether(t *testing.T, m *matrix.Matrix, stable []uint64, least uint64, most []uint64) {
	t.Helper()
	if !slices.Equal(m.Stable(), stable) || m.Least() != least || !slices.Equal(m.Most(), most) {
		t.Errorf("Stable, Least, Most = %d, %d, %d, want %d, %d, %d", m.Stable(), m.Least(), m.Most(), stable, least, most)
	}
}

// wantHolders holds who holds a message against what is written out.
func wantHolders(t *testing.T, m *matrix.Matrix, from uint8, seq uint64, want ...int) {
	t.Helper()
	if got := m.Holders(api.ID{From: from, Seq: seq}); !slices.Equal(got, want) {
		t.Errorf("Holders of %d of %d = %d, want %d", seq, from, got, want)
	}
}

// wantGone holds how many weren't gone against what is written out.
func wantGone(t *testing.T, m *matrix.Matrix, want int, l ...int) {
	t.Helper()
	if got := m.Gone(l...); got != want {
		t.Errorf("Gone(%d) = %d, want %d", l, got, want)
	}
}
