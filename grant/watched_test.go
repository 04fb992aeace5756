package grant_test

import (
	"fmt"
	"math"
	"slices"
	"strings"
	"testing"

	"unison/grant"
)

const (
	least    = math.MinInt
	greatest = math.MaxInt
	last     = 1 << 62 // the greatest number of a message
	over     = math.MaxUint64
	maxProcs = 64
)

// strange are processes that no grants have.
var strange = []int{least, least + 1, -1 << 32, -65, -64, -2, -1, maxProcs, maxProcs + 1, 128, 255, 256, 1 << 31, 1 << 32, 1<<32 + 1, greatest - 1, greatest}

// wide is a list with room behind its end.
func wide[T any](l ...T) []T {
	return append(append(make([]T, 0, 2*len(l)), l...), l...)[:len(l)]
}

func fill[T any](l []T, with T) {
	for i := range l {
		l[i] = with
	}
}

// watched is grants, and beside them what the chapter says of them. Each call is held against that, and the grants are
// looked at behind it.
type watched struct {
	t     *testing.T
	g     *grant.Grants
	n, me int
	told  []uint64
	left  []int // those that aren't gone
	limit uint64
	calls []string
}

func watch(t *testing.T, n, me int) *watched {
	t.Helper()
	w := &watched{t: t, g: grant.New(n, me), n: n, me: me}
	if n < 1 {
		w.n = 1
	}
	if n > maxProcs {
		w.n = maxProcs
	}
	if me < 0 {
		w.me = 0
	}
	if me >= w.n {
		w.me = w.n - 1
	}
	w.told = make([]uint64, w.n)
	for p := range w.n {
		w.left = append(w.left, p)
	}
	w.called("New(%d, %d)", n, me)
	w.look()
	return w
}

func (w *watched) called(format string, l ...any) {
	w.calls = append(w.calls, fmt.Sprintf(format, l...))
}

func (w *watched) fail(format string, l ...any) {
	w.t.Helper()
	calls := strings.Join(w.calls[max(0, len(w.calls)-20):], ", ")
	w.t.Fatalf("%.3000s: %s", calls, fmt.Sprintf(format, l...))
}

// least is what is told by the one that told least, of those that aren't gone.
func (w *watched) least() uint64 {
	var l []uint64
	for _, p := range w.left {
		l = append(l, w.told[p])
	}
	slices.Sort(l)
	return l[0]
}

// look looks at all that grants tell: none of these calls changes anything.
func (w *watched) look() {
	w.t.Helper()
	want := w.least()
	if want < w.limit {
		w.fail("the limit fell from %d to %d", w.limit, want)
	}
	w.limit = want
	for range 2 {
		for p := -1; p <= w.n; p++ {
			w.of(p)
		}
		if got := w.g.Limit(); got != want {
			w.fail("Limit = %d, want %d", got, want)
		}
		for _, x := range []uint64{0, 1, 2, want / 2, want - 1, want, want + 1, want + 2, last, 1 << 63, over - 1, over} {
			w.wantMay(x)
			w.wantLeft(x)
		}
	}
}

func (w *watched) of(p int) {
	w.t.Helper()
	want := uint64(0)
	if p >= 0 && p < w.n {
		want = w.told[p]
	}
	if got := w.g.Of(p); got != want {
		w.fail("Of(%d) = %d, want %d", p, got, want)
	}
	if slices.Contains(w.left, p) && w.g.Of(p) < w.g.Limit() {
		w.fail("%d told %d, and the limit is %d", p, w.g.Of(p), w.g.Limit())
	}
}

func (w *watched) wantMay(seq uint64) {
	w.t.Helper()
	if got, want := w.g.May(seq), seq != 0 && !(seq > w.limit); got != want {
		w.fail("May(%d) = %t, want %t", seq, got, want)
	}
}

func (w *watched) wantLeft(after uint64) {
	w.t.Helper()
	want := uint64(0)
	if after < w.limit {
		want = w.limit - after
	}
	if got := w.g.Left(after); got != want {
		w.fail("Left(%d) = %d, want %d", after, got, want)
	}
}

func (w *watched) tell(p int, upto uint64) bool {
	w.t.Helper()
	w.called("Tell(%d, %d)", p, upto)
	want := false
	if p >= 0 && p < w.n && w.told[p] < upto {
		w.told[p] = upto
		want = true
	}
	if got := w.g.Tell(p, upto); got != want {
		w.fail("it is %t, want %t", got, want)
	}
	w.look()
	return want
}

// gone tells who is gone, in memory that has room behind its end, and is written into at once.
func (w *watched) gone(l ...int) int {
	w.t.Helper()
	w.called("Gone(%d)", l)
	had := len(w.left)
	for _, p := range l {
		if at := slices.Index(w.left, p); at >= 0 && p != w.me {
			w.left = slices.Delete(w.left, at, at+1)
		}
	}
	want := had - len(w.left)
	handed := wide(l...)
	if got := w.g.Gone(handed...); got != want {
		w.fail("it is %d, want %d", got, want)
	}
	if !slices.Equal(handed[:cap(handed)], append(slices.Clone(l), l...)) {
		w.fail("what is handed in is changed: %d, want %d", handed[:cap(handed)], l)
	}
	for p := range w.n { // and none of these is gone
		fill(handed[:cap(handed)], p)
	}
	w.look()
	return want
}

// goneAll tells that all others are gone.
func (w *watched) goneAll() int {
	w.t.Helper()
	var l []int
	for p := range w.n {
		l = append(l, p)
	}
	return w.gone(l...)
}

// tellAll tells what each process told, the first one's ahead; one whose number is 0 tells nothing.
func (w *watched) tellAll(l ...uint64) {
	w.t.Helper()
	for p, upto := range l {
		w.tell(p, upto)
	}
}

// wantTell holds what Tell answers, and the limit behind it, against what is written out.
func wantTell(t *testing.T, g *grant.Grants, p int, upto uint64, want bool, limit uint64) {
	t.Helper()
	if got := g.Tell(p, upto); got != want {
		t.Errorf("Tell(%d, %d) = %t, want %t", p, upto, got, want)
	}
	wantLimit(t, g, limit)
}

// wantGone holds what Gone answers, and the limit behind it, against what is written out.
func wantGone(t *testing.T, g *grant.Grants, want int, limit uint64, l ...int) {
	t.Helper()
	if got := g.Gone(l...); got != want {
		t.Errorf("Gone(%d) = %d, want %d", l, got, want)
	}
	wantLimit(t, g, limit)
}

// wantLimit holds the limit, and what hangs on it, against what is written out.
func wantLimit(t *testing.T, g *grant.Grants, limit uint64) {
	t.Helper()
	if got := g.Limit(); got != limit {
		t.Errorf("Limit = %d, want %d", got, limit)
	}
	if g.May(0) || g.May(limit) != (limit > 0) || limit < over && g.May(limit+1) {
		t.Errorf("the limit is %d: May of 0, of it and of one more is %t, %t, %t", limit, g.May(0), g.May(limit), g.May(limit+1))
	}
	if g.Left(0) != limit || g.Left(limit) != 0 {
		t.Errorf("the limit is %d: Left of 0 and of it is %d, %d", limit, g.Left(0), g.Left(limit))
	}
}

// wantOf holds what each process told against what is written out.
func wantOf(t *testing.T, g *grant.Grants, want ...uint64) {
	t.Helper()
	for p, upto := range want {
		if got := g.Of(p); got != upto {
			t.Errorf("Of(%d) = %d, want %d", p, got, upto)
		}
	}
}
