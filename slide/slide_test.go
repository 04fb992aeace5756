package slide_test

import (
	"fmt"
	"math"
	"math/rand"
	"slices"
	"strings"
	"testing"

	"unison/api"
	"unison/slide"
)

const huge = uint64(math.MaxUint64)

// text is a frame as text, into which nobody can write. A nil list is told like an empty one.
func text(f api.Frame) string { return fmt.Sprint(f) }

// frame is one of many, by its number: all its fields are given, and a Seq of its own.
func frame(n int) api.Frame {
	x := uint64(n)
	return api.Frame{
		Head: api.Head{Kind: uint8(n), From: uint8(n + 1), To: uint8(n + 2)},
		ID:   api.ID{From: uint8(n + 3), Seq: x + 4},
		Seq:  7777 - x,
		At:   uint32(n + 5), Of: uint32(n + 6), Size: uint32(n + 7),
		Inst: x + 8, Round: x + 9,
		Est:  []api.Run{{From: 1, First: x + 1, Count: 2}, {From: 3, First: 4, Count: 5}},
		Aux:  []api.Run{{From: 6, First: x + 7, Count: 8}},
		Done: []uint64{x + 10, 11, 12}, Held: []uint64{x + 13, 14},
		Data: []byte(fmt.Sprintf("data of %d", n)),
	}
}

// frames are so many, from a number on.
func frames(from, size int) []api.Frame {
	var l []api.Frame
	for i := range size {
		l = append(l, frame(from+i))
	}
	return l
}

// wide is the frame in other memory, each list with room behind its end.
func wide(f api.Frame) api.Frame {
	f.Est, f.Aux = roomy(f.Est, api.Run{From: 9, First: 9, Count: 9}), roomy(f.Aux, api.Run{From: 8, First: 8, Count: 8})
	f.Done, f.Held = roomy(f.Done, 99), roomy(f.Held, 88)
	f.Data = roomy(f.Data, 77)
	return f
}

func roomy[T any](l []T, spare T) []T {
	return append(append(make([]T, 0, len(l)+3), l...), spare, spare, spare)[:len(l)]
}

// whole is the frame with the room behind its lists' ends.
func whole(f api.Frame) api.Frame {
	f.Est, f.Aux = f.Est[:cap(f.Est)], f.Aux[:cap(f.Aux)]
	f.Done, f.Held = f.Done[:cap(f.Done)], f.Held[:cap(f.Held)]
	f.Data = f.Data[:cap(f.Data)]
	return f
}

// spoil writes into all that frames have, and into the room behind.
func spoil(l []api.Frame) {
	l = l[:cap(l)]
	for i := range l {
		f := whole(l[i])
		for j := range f.Est {
			f.Est[j].First ^= 0x5a5a
		}
		for j := range f.Aux {
			f.Aux[j].Count ^= 0x5a5a
		}
		for j := range f.Done {
			f.Done[j] ^= 0x5a5a
		}
		for j := range f.Held {
			f.Held[j] ^= 0x5a5a
		}
		for j := range f.Data {
			f.Data[j] ^= 0x5a
		}
		l[i] = api.Frame{Seq: 5555, Data: []byte("another one")}
	}
}

// watched is a window, and beside it what the chapter says of it: all frames that were
// ever put in, by their numbers, and which of them were acknowledged. Each call is held
// against that, and the window is looked at as a whole behind it. What is handed in, and
// what is answered, is written into at once.
type watched struct {
	t     *testing.T
	win   *slide.Window
	width int
	put   map[uint64]string
	acked map[uint64]bool
	calls []string
	next  int
}

func watch(t *testing.T, width int) *watched {
	t.Helper()
	w := &watched{t: t, win: slide.New(width), width: width, put: map[uint64]string{}, acked: map[uint64]bool{}}
	if width < 1 {
		w.width = 1
	}
	if width > 64 {
		w.width = 64
	}
	w.called("New(%d)", width)
	w.look()
	return w
}

func (w *watched) called(format string, l ...any) {
	w.calls = append(w.calls, fmt.Sprintf(format, l...))
}

func (w *watched) fail(format string, l ...any) {
	w.t.Helper()
	row := strings.Join(w.calls[max(0, len(w.calls)-20):], ", ")
	w.t.Fatalf("%s: %s", row, fmt.Sprintf(format, l...))
}

func (w *watched) wantCount(name string, got, want int) {
	w.t.Helper()
	if got != want {
		w.fail("%s = %d, want %d", name, got, want)
	}
}

func (w *watched) last() uint64 { return uint64(len(w.put)) }

func (w *watched) first() uint64 {
	n := uint64(1)
	for w.acked[n] {
		n++
	}
	return n
}

func (w *watched) waits() int { return len(w.put) - len(w.acked) }

// told is what waits, from a number on, by going through all numbers that were given.
func (w *watched) told(from uint64, most int) []string {
	var l []string
	for n := uint64(1); n <= w.last(); n++ {
		if n >= from && !w.acked[n] && len(l) < most {
			l = append(l, w.put[n])
		}
	}
	return l
}

func (w *watched) wantWaiting(from uint64, most int) {
	w.t.Helper()
	got, want := w.win.Waiting(from, most), w.told(from, most)
	var l []string
	for _, f := range got {
		l = append(l, text(f))
	}
	if !slices.Equal(l, want) {
		w.fail("Waiting(%d, %d) = %q, want %q", from, most, l, want)
	}
	spoil(got)
}

// look looks at all that a window tells.
func (w *watched) look() {
	w.t.Helper()
	w.wantCount("Waits", w.win.Waits(), w.waits())
	w.wantCount("Room", w.win.Room(), w.width-w.waits())
	if first, last := w.win.First(), w.win.Last(); first != w.first() || last != w.last() {
		w.fail("First = %d, Last = %d, want %d, %d", first, last, w.first(), w.last())
	}
	w.wantWaiting(0, math.MaxInt)
	w.wantWaiting(0, w.waits())
	w.wantWaiting(w.first(), w.waits()-1)
}

// lookFrom looks at what waits from any number on, and at any number of it.
func (w *watched) lookFrom() {
	w.t.Helper()
	size := w.waits()
	mosts := []int{math.MinInt, -1, 0, 1, 2, size - 1, size, size + 1, math.MaxInt - 1, math.MaxInt}
	froms := []uint64{huge, huge - 1, huge - uint64(size), 1 << 63, 1<<63 - 1, 1 << 62}
	for n := uint64(0); n <= w.last()+2; n++ {
		froms = append(froms, n)
	}
	for _, from := range froms {
		for _, most := range mosts {
			w.wantWaiting(from, most)
		}
	}
}

// give puts so many frames in, each another one.
func (w *watched) give(size int) {
	w.t.Helper()
	w.giveFrames(frames(w.next, size)...)
	w.next += size
}

func (w *watched) giveFrames(l ...api.Frame) {
	w.t.Helper()
	w.called("Put of %d", len(l))
	handed, kept := make([]api.Frame, len(l), len(l)+2), make([]string, len(l))
	for i, f := range l {
		handed[i] = wide(f)
		kept[i] = text(whole(handed[i]))
	}
	got, want := w.win.Put(handed...), 0
	for i, f := range l {
		if text(whole(handed[i])) != kept[i] {
			w.fail("what is handed in is changed: %v, want %s", handed[i], kept[i])
		}
		if w.waits() < w.width {
			f.Seq = w.last() + 1
			w.put[f.Seq] = text(f)
			want++
		}
	}
	spoil(handed)
	w.wantCount("Put", got, want)
	w.look()
}

func (w *watched) ack(upto uint64) {
	w.t.Helper()
	w.called("Acked(%d)", upto)
	got, want := w.win.Acked(upto), 0
	for n := range w.put {
		if n <= upto && upto <= w.last() && !w.acked[n] {
			w.acked[n] = true
			want++
		}
	}
	w.wantCount("Acked", got, want)
	w.look()
}

func wantNumbers(t *testing.T, w *slide.Window, waits, room int, first, last uint64) {
	t.Helper()
	if w.Waits() != waits || w.Room() != room || w.First() != first || w.Last() != last {
		t.Errorf("Waits, Room, First, Last = %d, %d, %d, %d, want %d, %d, %d, %d",
			w.Waits(), w.Room(), w.First(), w.Last(), waits, room, first, last)
	}
}

func TestExample(t *testing.T) { // P8.1, P8.2
	w := slide.New(2)
	if got := w.Put(frame(1), frame(2), frame(3)); got != 2 {
		t.Errorf("Put = %d", got)
	}
	wantNumbers(t, w, 2, 0, 1, 2)
	l := w.Waiting(1, 3)
	if len(l) != 2 || l[0].Seq != 1 || l[1].Seq != 2 {
		t.Errorf("Waiting = %v", l)
	}
}

func TestARow(t *testing.T) { // P8.1, P8.2: with the answers written out
	w := slide.New(3)
	wantNumbers(t, w, 0, 3, 1, 0)
	wantCall(t, "Put", w.Put(frames(0, 2)...), 2)
	wantNumbers(t, w, 2, 1, 1, 2)
	wantCall(t, "Acked(1)", w.Acked(1), 1)
	wantNumbers(t, w, 1, 2, 2, 2)
	wantCall(t, "Put", w.Put(frames(2, 5)...), 2)
	wantNumbers(t, w, 3, 0, 2, 4)
	wantSeqs(t, w.Waiting(0, 9), 2, 3, 4)
	wantSeqs(t, w.Waiting(3, 1), 3)
	wantCall(t, "Acked(5)", w.Acked(5), 0)
	wantCall(t, "Acked(3)", w.Acked(3), 2)
	wantNumbers(t, w, 1, 2, 4, 4)
	wantSeqs(t, w.Waiting(2, 9), 4)
	wantCall(t, "Acked(4)", w.Acked(4), 1)
	wantNumbers(t, w, 0, 3, 5, 4)
	wantSeqs(t, w.Waiting(4, 9))
	wantCall(t, "Put", w.Put(frame(7)), 1)
	wantNumbers(t, w, 1, 2, 5, 5)
	wantSeqs(t, w.Waiting(0, 9), 5)
}

func wantCall(t *testing.T, name string, got, want int) {
	t.Helper()
	if got != want {
		t.Errorf("%s = %d, want %d", name, got, want)
	}
}

func wantSeqs(t *testing.T, l []api.Frame, want ...uint64) {
	t.Helper()
	var got []uint64
	for _, f := range l {
		got = append(got, f.Seq)
	}
	if !slices.Equal(got, want) {
		t.Errorf("the numbers are %d, want %d", got, want)
	}
}

func TestWidth(t *testing.T) { // P8.1
	for width, want := range map[int]int{
		math.MinInt: 1, -64: 1, -1: 1, 0: 1, 1: 1, 2: 2, 3: 3,
		63: 63, 64: 64, 65: 64, 128: 64, math.MaxInt: 64,
	} {
		w := slide.New(width)
		wantNumbers(t, w, 0, want, 1, 0)
		wantCall(t, "Put of as many as there is room for", w.Put(frames(0, want)...), want)
		wantNumbers(t, w, want, 0, 1, uint64(want))
		wantCall(t, "Put of one more", w.Put(frame(want)), 0)
		wantNumbers(t, w, want, 0, 1, uint64(want))

		w = slide.New(width)
		wantCall(t, "Put of one more than there is room for", w.Put(frames(0, want+1)...), want)
		wantNumbers(t, w, want, 0, 1, uint64(want))
		l := w.Waiting(0, want+1)
		if len(l) != want || l[want-1].At != frame(want-1).At {
			t.Errorf("width %d: %d wait", width, len(l))
		}
	}
}

func TestPut(t *testing.T) { // P8.1, P8.2
	for width := range 6 {
		for ahead := range 7 {
			for upto := range uint64(7) {
				for size := range 8 {
					w := watch(t, width)
					w.give(ahead)
					w.ack(upto)
					w.give(size)
					w.give(0)
					w.lookFrom()
				}
			}
		}
	}
}

func TestPutOfNone(t *testing.T) { // P8.1, P0.5
	w := watch(t, 1)
	for range 2 {
		w.give(0)
		wantCall(t, "Put of none", w.win.Put(), 0)
		wantCall(t, "Put of a nil list", w.win.Put([]api.Frame(nil)...), 0)
		wantCall(t, "Put of an empty list", w.win.Put([]api.Frame{}...), 0)
		w.look()
		w.give(1)
	}
}

func TestTheSeqIsTheWindows(t *testing.T) { // P8.1: whatever a frame came in with
	w := watch(t, 4)
	for n := range 3 {
		for _, seq := range []uint64{0, 1, uint64(4*n + 3), 1 << 62, huge} {
			f := frame(n)
			f.Seq = seq
			w.giveFrames(f, f)
			w.ack(w.last())
		}
	}
	w.giveFrames(api.Frame{Seq: 9}, api.Frame{Seq: 9}, api.Frame{Seq: 9})
	wantSeqs(t, w.win.Waiting(0, 9), w.last()-2, w.last()-1, w.last())
}

func TestAllElseOfAFrameStays(t *testing.T) { // P8.2, P0.5
	none := api.Frame{}
	empty := api.Frame{Est: []api.Run{}, Aux: []api.Run{}, Done: []uint64{}, Held: []uint64{}, Data: []byte{}}
	most := api.Frame{
		Head: api.Head{Kind: 255, From: 255, To: 255}, ID: api.ID{From: 255, Seq: huge}, Seq: huge,
		At: math.MaxUint32, Of: math.MaxUint32, Size: math.MaxUint32, Inst: huge, Round: huge,
		Est: []api.Run{{From: 255, First: huge, Count: huge}}, Aux: []api.Run{{}},
		Done: []uint64{huge, 0}, Held: make([]uint64, 100), Data: []byte(strings.Repeat("ab", 5000)),
	}
	w := watch(t, 64)
	w.giveFrames(none, empty, most, frame(1), none, most)
	w.lookFrom()
	for n := range 40 { // each field alone
		var one api.Frame
		f := frame(n)
		switch n % 8 {
		case 0:
			one.Head = f.Head
		case 1:
			one.ID = f.ID
		case 2:
			one.At, one.Of, one.Size = f.At, f.Of, f.Size
		case 3:
			one.Inst, one.Round = f.Inst, f.Round
		case 4:
			one.Est = f.Est
		case 5:
			one.Aux = f.Aux
		case 6:
			one.Done = f.Done
		case 7:
			one.Held, one.Data = f.Held, f.Data
		}
		w.giveFrames(one)
	}
}

func TestAcked(t *testing.T) { // P8.1
	for _, upto := range []uint64{0, 1, 2, 3, 4, 5, 6, 7, 1 << 62, 1 << 63, huge - 1, huge} {
		for first := range uint64(6) {
			w := watch(t, 3)
			w.ack(upto)
			w.give(3)
			w.ack(first)
			w.give(9)
			w.ack(upto)
			w.ack(upto)
			w.lookFrom()
			w.give(2)
			w.ack(upto)
		}
	}
}

func TestAckedWrittenOut(t *testing.T) { // P8.1: from the numbers 3 to 5
	for upto, want := range map[uint64]int{0: 0, 1: 0, 2: 0, 3: 1, 4: 2, 5: 3, 6: 0, 7: 0, 1 << 32: 0, 1 << 63: 0, huge: 0} {
		w := slide.New(3)
		w.Put(frames(0, 2)...)
		w.Acked(2)
		w.Put(frames(2, 3)...)
		wantNumbers(t, w, 3, 0, 3, 5)
		wantCall(t, "Acked", w.Acked(upto), want)
		wantNumbers(t, w, 3-want, want, 3+uint64(want), 5)
		wantCall(t, "Acked once more", w.Acked(upto), 0)
		wantNumbers(t, w, 3-want, want, 3+uint64(want), 5)
	}
}

func TestWaitingWrittenOut(t *testing.T) { // P8.1, P8.2: from the numbers 3 to 5
	w := slide.New(3)
	w.Put(frames(0, 2)...)
	w.Acked(2)
	w.Put(frames(2, 3)...)
	for from, want := range map[uint64][]uint64{
		0: {3, 4, 5}, 1: {3, 4, 5}, 2: {3, 4, 5}, 3: {3, 4, 5}, 4: {4, 5}, 5: {5}, 6: nil, 7: nil, 1 << 63: nil, huge: nil,
	} {
		for _, most := range []int{math.MinInt, -1, 0, 1, 2, 3, 4, math.MaxInt} {
			size := min(max(most, 0), len(want))
			got := w.Waiting(from, most)
			wantSeqs(t, got, want[:size]...)
			for i, f := range got {
				told := frame(int(want[i]) - 1)
				told.Seq = want[i]
				if text(f) != text(told) {
					t.Errorf("Waiting(%d, %d)[%d] = %v, want %v", from, most, i, f, told)
				}
			}
			wantNumbers(t, w, 3, 0, 3, 5)
		}
	}
}

func TestFirstAndLastOfAnEmptyWindow(t *testing.T) { // P8.1
	w := watch(t, 5)
	wantNumbers(t, w.win, 0, 5, 1, 0)
	w.lookFrom()
	for range 3 {
		w.give(3)
		w.ack(w.last())
		wantNumbers(t, w.win, 0, 5, w.last()+1, w.last())
		w.lookFrom()
		w.ack(w.last())
		w.ack(w.last() + 1)
	}
	wantNumbers(t, w.win, 0, 5, 10, 9)
}

func TestSmallRows(t *testing.T) { // P8.1, P8.2: all rows of five calls
	calls := []func(w *watched){
		func(w *watched) { w.give(1) },
		func(w *watched) { w.give(2) },
		func(w *watched) { w.ack(w.first()) },
		func(w *watched) { w.ack(w.last()) },
		func(w *watched) { w.ack(2) },
	}
	for width := 1; width <= 3; width++ {
		for row := range 5 * 5 * 5 * 5 * 5 {
			w := watch(t, width)
			for range 5 {
				calls[row%5](w)
				row /= 5
			}
		}
	}
}

func someCall(dice *rand.Rand, w *watched) {
	w.t.Helper()
	switch dice.Intn(5) {
	case 0, 1:
		w.give(dice.Intn(w.width + 2))
	case 2:
		w.ack(w.first() + uint64(dice.Intn(w.waits()+2)) - 1)
	case 3:
		w.ack(uint64(dice.Intn(int(w.last()) + 2)))
	case 4:
		w.wantWaiting(uint64(dice.Intn(int(w.last())+2)), dice.Intn(w.width+2)-1)
	}
}

func TestRandomRows(t *testing.T) { // P8.1, P8.2
	dice := rand.New(rand.NewSource(81))
	for range 150 {
		w := watch(t, 1+dice.Intn(9))
		for range 60 {
			someCall(dice, w)
		}
		w.lookFrom()
	}
}

func TestLongRows(t *testing.T) { // P8.1, P8.2: numbers go on, however often the window was full
	for _, width := range []int{1, 2, 7, 64} {
		w := watch(t, width)
		for range 40 {
			w.give(width)
			w.ack(w.last() - uint64(width/3))
		}
		w.lookFrom()
	}
}

func TestManyNumbers(t *testing.T) { // P8.1, P8.2
	w := slide.New(3)
	for n := uint64(1); n <= 100000; n++ {
		if w.Put(api.Frame{At: uint32(n)}) != 1 || w.Last() != n {
			t.Fatalf("the number %d isn't given: %d", n, w.Last())
		}
		if n >= 3 && w.Acked(n-2) != 1 {
			t.Fatalf("the number %d isn't acknowledged", n-2)
		}
	}
	l := w.Waiting(0, 9)
	wantSeqs(t, l, 99999, 100000)
	if l[0].At != 99999 || l[1].At != 100000 {
		t.Errorf("what waits is %v", l)
	}
}

func TestANilWindow(t *testing.T) { // P8.1, P0.1
	var w *slide.Window
	for range 2 {
		if w.Put() != 0 || w.Put(frame(1)) != 0 || w.Put(frames(1, 99)...) != 0 {
			t.Error("a nil window takes frames")
		}
		for _, n := range []uint64{0, 1, 2, 1 << 63, huge} {
			if w.Acked(n) != 0 {
				t.Errorf("Acked(%d) of a nil window", n)
			}
			for _, most := range []int{math.MinInt, -1, 0, 1, math.MaxInt} {
				if l := w.Waiting(n, most); len(l) != 0 {
					t.Errorf("Waiting(%d, %d) of a nil window: %v", n, most, l)
				}
			}
		}
		wantNumbers(t, w, 0, 0, 0, 0)
	}
}

func TestFramesWrittenIntoBehindPut(t *testing.T) { // P0.4
	l := []api.Frame{wide(frame(0)), wide(frame(1)), wide(frame(2))}
	w := slide.New(9)
	w.Put(l...)
	w.Put(l[0])
	spoil(l)
	for i, n := range []int{0, 1, 2, 0} {
		want := frame(n)
		want.Seq = uint64(i + 1)
		for range 2 {
			if got := w.Waiting(want.Seq, 1); len(got) != 1 || text(got[0]) != text(want) {
				t.Errorf("Waiting(%d, 1) = %v, want %v", want.Seq, got, want)
			}
		}
	}
}

func TestWhatIsHandedInIsLeftAsItWas(t *testing.T) { // P0.4
	l := []api.Frame{wide(frame(0)), wide(frame(1)), {}, wide(frame(2)), wide(frame(3))}
	var kept []string
	for _, f := range l {
		kept = append(kept, text(whole(f)))
	}
	w := slide.New(3)
	w.Put(l[:2]...)
	w.Put(l[2:4]...)
	w.Acked(2)
	w.Put(l[:1]...)
	spoil(w.Waiting(0, 9))
	for i, f := range l {
		if text(whole(f)) != kept[i] {
			t.Errorf("what is handed in is changed: %v, want %s", f, kept[i])
		}
	}
}

func TestListsOfOneMemory(t *testing.T) { // P0.4: a frame whose lists lie in one another
	numbers, runs := []uint64{1, 2, 3, 4}, []api.Run{{First: 1, Count: 2}, {First: 3, Count: 4}}
	f := api.Frame{Done: numbers[:3], Held: numbers[1:], Est: runs, Aux: runs[1:]}
	w := slide.New(4)
	w.Put(f, f)
	want := w.Waiting(0, 9)
	for range 2 {
		got := w.Waiting(0, 9)
		got[0].Done[1], got[0].Est[1].First = 99, 99
		if got[0].Held[0] != 2 || got[0].Aux[0].First != 3 || got[1].Done[1] != 2 || got[1].Est[1].First != 3 {
			t.Errorf("two lists of an answer share memory: %v", got)
		}
	}
	numbers[1], runs[1].First = 98, 98
	for i, x := range w.Waiting(0, 9) {
		if text(x) != text(want[i]) {
			t.Errorf("what waits is changed: %v, want %v", x, want[i])
		}
	}
}

func TestAnswersShareNothing(t *testing.T) { // P0.4
	w := slide.New(4)
	w.Put(frames(0, 3)...)
	kept := []string{}
	for _, f := range w.Waiting(0, 9) {
		kept = append(kept, text(f))
	}
	first, second := w.Waiting(0, 9), w.Waiting(1, 2)
	spoil(first)
	for i, f := range second {
		if text(f) != kept[i] {
			t.Errorf("two answers share memory: %v, want %s", f, kept[i])
		}
	}
	for i, f := range w.Waiting(0, 9) {
		if text(f) != kept[i] {
			t.Errorf("what waits is changed: %v, want %s", f, kept[i])
		}
	}
	third := w.Waiting(2, 2)
	w.Acked(2)
	w.Put(frames(7, 3)...)
	w.Acked(4)
	w.Put(frames(17, 3)...)
	if text(third[0]) != kept[1] || text(third[1]) != kept[2] || text(second[0]) != kept[0] {
		t.Errorf("answers are changed when the window goes on: %v, %v", second, third)
	}
}

func TestWindowsShareNothing(t *testing.T) { // P0.4, P0.6
	f := frame(1)
	a, b := slide.New(2), slide.New(1)
	a.Put(f)
	b.Put(f, f)
	b.Acked(1)
	wantNumbers(t, a, 1, 1, 1, 1)
	wantNumbers(t, b, 0, 1, 2, 1)
	spoil(a.Waiting(0, 9))
	f.Seq = 1
	if l := a.Waiting(0, 9); len(l) != 1 || text(l[0]) != text(f) {
		t.Errorf("what waits is %v", l)
	}
	wantNumbers(t, slide.New(1), 0, 1, 1, 0)
}

func TestAnswersHangOnTheRowOfCallsAlone(t *testing.T) { // P0.6
	var want []string
	for range 3 {
		dice := rand.New(rand.NewSource(86))
		w := watch(t, 7)
		for range 200 {
			someCall(dice, w)
		}
		w.give(3)
		var got []string
		for _, f := range w.win.Waiting(0, math.MaxInt) {
			got = append(got, text(f))
		}
		if want != nil && !slices.Equal(got, want) {
			t.Errorf("one row of calls, two windows: %q, %q", got, want)
		}
		want = got
	}
	if len(want) == 0 {
		t.Error("nothing was left to be held against")
	}
}

// FuzzRow reads calls of bytes: which one, and a number.
func FuzzRow(f *testing.F) { // P8.1, P8.2
	f.Add(3, []byte{0, 2, 0, 2, 1, 1, 2, 1, 0, 9, 1, 0})
	f.Add(0, []byte{0, 1, 1, 2, 3, 255, 1, 1, 0, 1, 2, 2})
	f.Add(65, []byte{0, 200, 1, 63, 0, 64, 2, 5, 3, 0})
	f.Fuzz(func(t *testing.T, width int, b []byte) {
		w := watch(t, width)
		for ; len(b) >= 2 && len(w.calls) < 200; b = b[2:] {
			n := uint64(b[1])
			switch b[0] % 5 {
			case 0:
				w.give(int(n))
			case 1:
				w.ack(n)
			case 2:
				w.ack(w.first() + n - 128)
			case 3:
				w.ack(-n)
			case 4:
				w.wantWaiting(w.first()+n-128, int(int8(b[0])))
			}
		}
	})
}
