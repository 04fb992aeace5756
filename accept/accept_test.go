package accept_test

import (
	"fmt"
	"math"
	"math/rand"
	"slices"
	"strings"
	"testing"

	"unison/accept"
	"unison/api"
)

const huge = uint64(math.MaxUint64)

// greats are numbers that are far above all that a test lets in, by which sums pass 64 bits.
var greats = []uint64{1 << 32, 1 << 62, 1<<63 - 1, 1 << 63, 1<<63 + 1, huge - 2, huge - 1, huge}

// watched is a gate, and beside it what the chapter says of it: which numbers were let in,
// in which order, and what was made of all that came. Each call is held against that, and
// the gate is looked at as a whole behind it.
type watched struct {
	t     *testing.T
	gate  *accept.Gate
	in    []uint64
	kinds []uint8
	owes  bool
	calls []string
}

func watch(t *testing.T) *watched {
	t.Helper()
	w := &watched{t: t, gate: accept.New()}
	w.called("New()")
	w.look()
	return w
}

func (w *watched) called(format string, l ...any) {
	w.calls = append(w.calls, fmt.Sprintf(format, l...))
}

func (w *watched) fail(format string, l ...any) {
	w.t.Helper()
	row := strings.Join(w.calls[max(0, len(w.calls)-20):], ", ")
	w.t.Fatalf("%s: %s", row, fmt.Sprintf(format, l...))
}

func (w *watched) upto() uint64 {
	if len(w.in) == 0 {
		return 0
	}
	return w.in[len(w.in)-1]
}

// came tells what is made of a number: the next one is looked for from the last one on, by counting.
func (w *watched) came(n uint64) uint8 {
	next := w.upto()
	next++
	what := uint8(3)
	if n == 0 || slices.Contains(w.in, n) {
		what = 2
	}
	if n == next {
		what = 1
		w.in = append(w.in, n)
	}
	w.kinds = append(w.kinds, what)
	w.owes = true
	return what
}

func (w *watched) count(what uint8) uint64 {
	size := uint64(0)
	for _, kind := range w.kinds {
		if kind == what {
			size++
		}
	}
	return size
}

// look looks at all that a gate tells.
func (w *watched) look() {
	w.t.Helper()
	if got := w.gate.Upto(); got != w.upto() {
		w.fail("Upto = %d, want %d", got, w.upto())
	}
	if got := w.gate.Owes(); got != w.owes {
		w.fail("Owes = %v, want %v", got, w.owes)
	}
	for _, what := range []uint8{0, 1, 2, 3, 4, 5, 128, 254, 255} {
		if got := w.gate.Count(what); got != w.count(what) {
			w.fail("Count(%d) = %d, want %d", what, got, w.count(what))
		}
	}
}

// take lets numbers come, in memory that has room behind its end and is written into at once.
func (w *watched) take(l ...uint64) {
	w.t.Helper()
	w.called("Take(%d)", l)
	room := append(append(make([]uint64, 0, len(l)+3), l...), 1, w.upto()+1, huge)
	kept := slices.Clone(room)
	got, want := w.gate.Take(room[:len(l)]...), uint8(0)
	if !slices.Equal(room, kept) {
		w.fail("what is handed in is changed: %d, want %d", room, kept)
	}
	for i := range room {
		room[i] = 5555
	}
	for _, n := range l {
		want = w.came(n)
	}
	if got != want {
		w.fail("Take = %d, want %d", got, want)
	}
	w.look()
}

func (w *watched) told() {
	w.t.Helper()
	w.called("Told()")
	w.gate.Told()
	w.owes = false
	w.look()
}

// opened is a watched gate that let so many numbers in, word of which isn't owed.
func opened(t *testing.T, upto uint64) *watched {
	t.Helper()
	w := watch(t)
	for n := uint64(1); n <= upto; n++ {
		w.take(n)
	}
	w.told()
	return w
}

func wantTake(t *testing.T, g *accept.Gate, want uint8, l ...uint64) {
	t.Helper()
	if got := g.Take(l...); got != want {
		t.Errorf("Take(%d) = %d, want %d", l, got, want)
	}
}

func wantGate(t *testing.T, g *accept.Gate, upto uint64, owes bool, next, old, ahead uint64) {
	t.Helper()
	if g.Upto() != upto || g.Owes() != owes {
		t.Errorf("Upto, Owes = %d, %v, want %d, %v", g.Upto(), g.Owes(), upto, owes)
	}
	for what, want := range map[uint8]uint64{
		0: 0, api.GateNext: next, api.GateOld: old, api.GateAhead: ahead, api.GateAhead + 1: 0, 255: 0,
	} {
		if got := g.Count(what); got != want {
			t.Errorf("Count(%d) = %d, want %d", what, got, want)
		}
	}
}

func TestExample(t *testing.T) { // P9.1, P9.2
	g := accept.New()
	wantTake(t, g, api.GateNext, 1)
	wantTake(t, g, api.GateAhead, 3)
	wantTake(t, g, api.GateNext, 2)
	wantTake(t, g, api.GateOld, 2)
	wantGate(t, g, 2, true, 2, 1, 1)

	g = accept.New()
	wantTake(t, g, api.GateOld, 1, 3, 2, 2)
	wantGate(t, g, 2, true, 2, 1, 1)
}

func TestARow(t *testing.T) { // P9.1, P9.2: with the answers written out
	g := accept.New()
	wantGate(t, g, 0, false, 0, 0, 0)
	wantTake(t, g, 3, 2)
	wantGate(t, g, 0, true, 0, 0, 1)
	wantTake(t, g, 1, 1)
	wantGate(t, g, 1, true, 1, 0, 1)
	g.Told()
	wantGate(t, g, 1, false, 1, 0, 1)
	wantTake(t, g, 2, 1)
	wantGate(t, g, 1, true, 1, 1, 1)
	g.Told()
	g.Told()
	wantGate(t, g, 1, false, 1, 1, 1)
	wantTake(t, g, 0)
	wantGate(t, g, 1, false, 1, 1, 1)
	wantTake(t, g, 3, 2, 3, 5)
	wantGate(t, g, 3, true, 3, 1, 2)
	wantTake(t, g, 0)
	wantGate(t, g, 3, true, 3, 1, 2)
	g.Told()
	wantTake(t, g, 3, 5)
	wantGate(t, g, 3, true, 3, 1, 3)
	wantTake(t, g, 1, 0, 4)
	wantGate(t, g, 4, true, 4, 2, 3)
	wantTake(t, g, 1, 5)
	wantGate(t, g, 5, true, 5, 2, 3)
}

func TestTheKindsAreTheChapters(t *testing.T) { // P9.1
	if api.GateNext != 1 || api.GateOld != 2 || api.GateAhead != 3 {
		t.Errorf("the kinds are %d, %d, %d", api.GateNext, api.GateOld, api.GateAhead)
	}
}

func TestOneNumber(t *testing.T) { // P9.1, P9.2: each one, around the last one that was let in
	for upto := range uint64(8) {
		for n := range upto + 5 {
			w := opened(t, upto)
			w.take(n)
			w.take(n)
			w.told()
			w.take(n)
			w.take(upto + 1)
		}
	}
}

func TestOneNumberWrittenOut(t *testing.T) { // P9.1, P9.2: behind 1, 2 and 3
	for n, want := range map[uint64]uint8{0: 2, 1: 2, 2: 2, 3: 2, 4: 1, 5: 3, 6: 3, 7: 3, 1 << 32: 3, 1 << 63: 3, huge: 3} {
		g := accept.New()
		wantTake(t, g, api.GateNext, 1, 2, 3)
		g.Told()
		wantTake(t, g, want, n)
		upto, counts := uint64(3), [4]uint64{1: 3}
		counts[want]++
		if want == 1 {
			upto = 4
		}
		wantGate(t, g, upto, true, counts[1], counts[2], counts[3])
	}
}

func TestTakeOfNone(t *testing.T) { // P9.1, P0.5: it changes nothing
	g := accept.New()
	for _, n := range []uint64{0, 1, 1, 2, 9} {
		for range 2 {
			upto, owes := g.Upto(), g.Owes()
			next, old, ahead := g.Count(1), g.Count(2), g.Count(3)
			wantTake(t, g, 0)
			wantTake(t, g, 0, []uint64(nil)...)
			wantTake(t, g, 0, []uint64{}...)
			wantTake(t, g, 0, make([]uint64, 0, 4)...)
			wantTake(t, g, 0, []uint64{1, 2, 3}[1:1]...)
			wantGate(t, g, upto, owes, next, old, ahead)
			g.Take(n)
			wantTake(t, g, 0)
			if !g.Owes() {
				t.Errorf("word of %d isn't owed behind a Take of none", n)
			}
			g.Told()
		}
	}
	wantGate(t, g, 2, false, 2, 6, 2)
}

func TestTheSameNumberTwice(t *testing.T) { // P9.1, P9.2
	for upto := range uint64(4) {
		for n := range upto + 4 {
			want := uint8(api.GateOld)
			if n > upto+1 {
				want = api.GateAhead
			}
			for range 2 {
				w := opened(t, upto)
				w.take(n)
				wantTake(t, w.gate, want, n)
				w.came(n)
				w.look()
				w.take(n, n, n)
			}
		}
	}
}

func TestAheadIsNotKept(t *testing.T) { // P9.2: a number that came too early has to come again
	g := accept.New()
	wantTake(t, g, api.GateAhead, 5, 4, 3, 2)
	wantGate(t, g, 0, true, 0, 0, 4)
	for n := uint64(1); n <= 5; n++ {
		wantTake(t, g, api.GateNext, n)
		if g.Upto() != n {
			t.Errorf("Upto = %d, want %d", g.Upto(), n)
		}
	}
	wantGate(t, g, 5, true, 5, 0, 4)
}

func TestOwes(t *testing.T) { // P9.1: of the next number on, whichever that is, until it is told
	for _, upto := range []uint64{0, 1, 2, 7} {
		for _, n := range append([]uint64{0, 1, 2, upto, upto + 1, upto + 2}, greats...) {
			w := opened(t, upto)
			for range 3 {
				if w.gate.Owes() {
					t.Errorf("word is owed ahead of %d", n)
				}
				w.take(n)
				if !w.gate.Owes() || !w.gate.Owes() {
					t.Errorf("no word of %d is owed", n)
				}
				w.told()
				w.told()
			}
		}
	}
}

func TestToldAtAGateThatOwesNothing(t *testing.T) { // P9.1
	w := watch(t)
	w.told()
	w.told()
	w.take()
	w.told()
	w.take(1)
	w.told()
	w.told()
	w.take()
	w.take(4)
	w.take()
	wantGate(t, w.gate, 1, true, 1, 0, 1)
}

func TestToldTellsOfAllThatCame(t *testing.T) { // P9.1: once is enough
	for _, l := range [][]uint64{{1, 2, 3}, {0, 0}, {9, 8}, {0, 1, 9}, {1, 9, 0}} {
		w := watch(t)
		for _, n := range l {
			w.take(n)
		}
		w.told()
		w.take(l...)
		w.told()
	}
}

func TestCount(t *testing.T) { // P9.1: of all that may be asked for
	g := accept.New()
	g.Take(1, 2, 3, 0, 9, 2, 7, 8, 1, 1, 4, 9)
	for what := range 256 {
		want := map[int]uint64{1: 4, 2: 4, 3: 4}[what]
		if got := g.Count(uint8(what)); got != want {
			t.Errorf("Count(%d) = %d, want %d", what, got, want)
		}
		if got := accept.New().Count(uint8(what)); got != 0 {
			t.Errorf("Count(%d) of a new gate = %d", what, got)
		}
	}
	wantTake(t, g, api.GateAhead, 5, 9, 9)
	wantGate(t, g, 5, true, 5, 4, 6)
}

func TestCountOfManyOfAKind(t *testing.T) { // P9.1: it doesn't end at a byte's greatest number, or two bytes'
	g := accept.New()
	for range 70000 {
		g.Take(0, huge)
	}
	wantGate(t, g, 0, true, 0, 70000, 70000)
}

func TestAskingChangesNothing(t *testing.T) { // P9.1
	w := opened(t, 2)
	w.take(9)
	for range 3 {
		w.look()
	}
	w.told()
	for range 3 {
		w.look()
	}
}

func TestTogetherAndOneByOne(t *testing.T) { // P9.1, P9.2: all rows of up to five numbers below 5
	for size := range 6 {
		rows := 1
		for range size {
			rows *= 5
		}
		for row := range rows {
			l := make([]uint64, size)
			for i := range l {
				l[i] = uint64(row % 5)
				row /= 5
			}
			for cut := range size + 1 {
				wantAlike(t, l, cut)
			}
		}
	}
}

// wantAlike holds numbers that come in two calls against the same ones one by one.
func wantAlike(t *testing.T, l []uint64, cut int) {
	t.Helper()
	one, two := watch(t), watch(t)
	for _, n := range l {
		one.take(n)
	}
	two.take(l[:cut]...)
	two.take(l[cut:]...)
	if !slices.Equal(one.in, two.in) || !slices.Equal(one.kinds, two.kinds) {
		t.Fatalf("%d, cut at %d: %v, %v", l, cut, one, two)
	}
	a, b := one.gate, two.gate
	if a.Upto() != b.Upto() || a.Owes() != b.Owes() || a.Count(1) != b.Count(1) || a.Count(2) != b.Count(2) || a.Count(3) != b.Count(3) {
		t.Fatalf("%d, cut at %d: the gates aren't alike", l, cut)
	}
}

func TestTogetherWrittenOut(t *testing.T) { // P9.1, P9.2: what is made of the last one
	for _, c := range []struct {
		l                []uint64
		what             uint8
		upto             uint64
		next, old, ahead uint64
	}{
		{[]uint64{1, 2, 3}, 1, 3, 3, 0, 0},
		{[]uint64{3, 2, 1}, 1, 1, 1, 0, 2},
		{[]uint64{1, 2, 1}, 2, 2, 2, 1, 0},
		{[]uint64{1, 2, 4}, 3, 2, 2, 0, 1},
		{[]uint64{4, 1, 0}, 2, 1, 1, 1, 1},
		{[]uint64{0, 4, 1}, 1, 1, 1, 1, 1},
		{[]uint64{0, 1, 4}, 3, 1, 1, 1, 1},
		{[]uint64{2, 1, 2, 2, 3, 1, 5}, 3, 3, 3, 2, 2},
		{[]uint64{huge, 1, huge, 2, 0}, 2, 2, 2, 1, 2},
	} {
		g := accept.New()
		wantTake(t, g, c.what, c.l...)
		wantGate(t, g, c.upto, true, c.next, c.old, c.ahead)
	}
}

func TestEachNumberIsLetInOnce(t *testing.T) { // P9.2: in whatever order numbers come, and however often
	dice := rand.New(rand.NewSource(92))
	for range 300 {
		const most = 12
		g, in := accept.New(), []uint64{}
		for range 400 {
			n := uint64(dice.Intn(most + 1))
			if g.Take(n) == api.GateNext {
				in = append(in, n)
			}
			if g.Upto() != uint64(len(in)) {
				t.Fatalf("Upto = %d, but %d were let in", g.Upto(), in)
			}
		}
		for i, n := range in {
			if n != uint64(i+1) {
				t.Fatalf("%d were let in", in)
			}
		}
		if len(in) == 0 {
			t.Fatal("none was let in")
		}
	}
}

func TestGreatNumbers(t *testing.T) { // P9.1, P9.2: sums that pass 64 bits, at a new gate and behind others
	for upto := range uint64(4) {
		for _, n := range greats {
			w := opened(t, upto)
			w.take(n)
			w.told()
			w.take(n, n)
			w.take(n, upto)
			w.take(n-upto, huge-upto)
			w.take(upto+1, n)
			wantTake(t, w.gate, api.GateAhead, n)
			if w.gate.Upto() != upto+1 {
				t.Errorf("Upto = %d behind %d", w.gate.Upto(), n)
			}
		}
	}
	g := accept.New()
	wantTake(t, g, api.GateAhead, greats...)
	wantGate(t, g, 0, true, 0, 0, uint64(len(greats)))
}

func TestANilGate(t *testing.T) { // P9.1, P0.1
	var g *accept.Gate
	for range 2 {
		for _, l := range [][]uint64{nil, {}, {0}, {1}, {2}, {1, 2, 3}, greats} {
			wantTake(t, g, 0, l...)
			wantGate(t, g, 0, false, 0, 0, 0)
			g.Told()
			wantGate(t, g, 0, false, 0, 0, 0)
		}
		for what := range 256 {
			if got := g.Count(uint8(what)); got != 0 {
				t.Errorf("Count(%d) of a nil gate = %d", what, got)
			}
		}
	}
}

func TestWhatIsHandedInIsLeftAsItWas(t *testing.T) { // P0.4
	room := []uint64{3, 1, 1, 2, 0, huge, 3, 4, 5}
	l := room[:6]
	kept := slices.Clone(room)
	g := accept.New()
	wantTake(t, g, api.GateAhead, l...)
	g.Told()
	wantTake(t, g, api.GateAhead, l...)
	if !slices.Equal(room, kept) {
		t.Errorf("what is handed in is changed: %d, want %d", room, kept)
	}
	for i := range room {
		room[i] = 77
	}
	wantGate(t, g, 3, true, 3, 6, 3)
	wantTake(t, g, api.GateNext, 4)
}

func TestGatesShareNothing(t *testing.T) { // P0.4, P0.6
	a, b := accept.New(), accept.New()
	a.Take(1, 2, 9)
	wantGate(t, b, 0, false, 0, 0, 0)
	b.Take(0, 1)
	wantGate(t, a, 2, true, 2, 0, 1)
	a.Told()
	wantGate(t, b, 1, true, 1, 1, 0)
	wantGate(t, a, 2, false, 2, 0, 1)
	wantGate(t, accept.New(), 0, false, 0, 0, 0)
}

func TestSmallRows(t *testing.T) { // P9.1, P9.2: all rows of six calls
	calls := []func(w *watched){
		func(w *watched) { w.take() },
		func(w *watched) { w.take(w.upto()) },
		func(w *watched) { w.take(w.upto() + 1) },
		func(w *watched) { w.take(w.upto() + 2) },
		func(w *watched) { w.take(2, 1) },
		func(w *watched) { w.told() },
	}
	for row := range 6 * 6 * 6 * 6 * 6 * 6 {
		w := watch(t)
		for range 6 {
			calls[row%6](w)
			row /= 6
		}
	}
}

func someCall(dice *rand.Rand, w *watched) {
	w.t.Helper()
	if dice.Intn(4) == 0 {
		w.told()
		return
	}
	l := make([]uint64, dice.Intn(5))
	for i := range l {
		switch dice.Intn(8) {
		case 0:
			l[i] = uint64(dice.Intn(20))
		case 1:
			l[i] = greats[dice.Intn(len(greats))]
		case 2:
			l[i] = w.upto()
		default:
			l[i] = w.upto() + uint64(dice.Intn(4))
		}
	}
	w.take(l...)
}

func TestRandomRows(t *testing.T) { // P9.1, P9.2
	dice := rand.New(rand.NewSource(91))
	for range 200 {
		w := watch(t)
		for range 80 {
			someCall(dice, w)
		}
	}
}

func TestManyNumbers(t *testing.T) { // P9.1, P9.2
	g := accept.New()
	for n := uint64(1); n <= 100000; n++ {
		if g.Take(n+1) != api.GateAhead || g.Take(n) != api.GateNext || g.Take(n) != api.GateOld || g.Upto() != n {
			t.Fatalf("the number %d isn't let in once: Upto = %d", n, g.Upto())
		}
	}
	wantGate(t, g, 100000, true, 100000, 100000, 100000)
}

func TestAnswersHangOnTheRowOfCallsAlone(t *testing.T) { // P0.6
	var want []string
	for range 3 {
		dice := rand.New(rand.NewSource(96))
		w := watch(t)
		var got []string
		for range 200 {
			someCall(dice, w)
			g := w.gate
			got = append(got, fmt.Sprint(g.Upto(), g.Owes(), g.Count(1), g.Count(2), g.Count(3)))
		}
		if want != nil && !slices.Equal(got, want) {
			t.Errorf("one row of calls, two gates: %q, %q", got, want)
		}
		if w.gate.Upto() == 0 {
			t.Error("none was let in")
		}
		want = got
	}
}

// FuzzRow reads calls of bytes: which one, and a number.
func FuzzRow(f *testing.F) { // P9.1, P9.2
	f.Add([]byte{0, 1, 0, 3, 0, 2, 0, 2})
	f.Add([]byte{1, 1, 3, 0, 1, 0, 1, 2, 2, 0, 1, 1})
	f.Add([]byte{2, 1, 2, 0, 4, 3, 3, 0, 4, 255})
	f.Fuzz(func(t *testing.T, b []byte) {
		w := watch(t)
		for ; len(b) >= 2 && len(w.calls) < 200; b = b[2:] {
			n := uint64(b[1])
			switch b[0] % 5 {
			case 0:
				w.take(n)
			case 1:
				w.take(w.upto() + n - 1)
			case 2:
				w.take(-n)
			case 3:
				w.told()
			case 4:
				w.take([]uint64{w.upto() + 1, n, w.upto() + 2, 0, huge}[:n%6]...)
			}
		}
	})
}
