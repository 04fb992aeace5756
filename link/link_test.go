package link_test

import (
	"fmt"
	"math"
	"math/rand"
	"slices"
	"strings"
	"testing"

	"unison/api"
	"unison/link"
)

const (
	huge     = uint64(math.MaxUint64)
	lastTick = int64(1) << 40
)

// The ends of most links here.
const (
	me   = uint8(3)
	peer = uint8(5)
)

// text is a frame as text, into which nobody can write. A nil list is told like an empty one.
func text(f api.Frame) string { return fmt.Sprint(f) }

func texts(l []api.Frame) []string {
	var all []string
	for _, f := range l {
		all = append(all, text(f))
	}
	return all
}

// frame is one of many, by its number: all its fields are given, and a head and a Seq that are not the link's.
func frame(n int) api.Frame {
	x := uint64(n)
	return api.Frame{
		Head: api.Head{Kind: uint8(n + 4), From: uint8(n + 9), To: uint8(n + 17)},
		ID:   api.ID{From: uint8(n + 3), Seq: x + 4},
		Seq:  7777 - x,
		At:   uint32(n + 5), Of: uint32(n + 6), Size: uint32(n + 7),
		Inst: x + 8, Round: x + 9,
		Est:  []api.Run{{From: 1, First: x + 1, Count: 2}, {From: 3, First: 4, Count: 5}},
		Aux:  []api.Run{{From: 6, First: x + 7, Count: 8}},
		Done: []uint64{x + 10, 11, 12}, Held: []uint64{x + 13, 14},
		Data: []byte(fmt.Sprintf("data of %d", n)),
	}
}

// frames are so many, from a number on.
func frames(from, size int) []api.Frame {
	var l []api.Frame
	for i := range size {
		l = append(l, frame(from+i))
	}
	return l
}

// from is a frame of a kind with a number, from one to another one.
func from(kind, a, b uint8, seq uint64) api.Frame {
	f := frame(int(seq % 1000))
	f.Head, f.Seq = api.Head{Kind: kind, From: a, To: b}, seq
	return f
}

func chunk(seq uint64) api.Frame { return from(api.KindChunk, peer, me, seq) }

func ack(seq uint64) api.Frame {
	return api.Frame{Head: api.Head{Kind: 2, From: peer, To: me}, Seq: seq}
}

func roomy[T any](l []T, spare T) []T {
	return append(append(make([]T, 0, len(l)+3), l...), spare, spare, spare)[:len(l)]
}

func fill[T any](l []T, with T) {
	for i := range l {
		l[i] = with
	}
}

// wide is the frame in other memory, each list with room behind its end.
func wide(f api.Frame) api.Frame {
	f.Est, f.Aux = roomy(f.Est, api.Run{From: 9}), roomy(f.Aux, api.Run{From: 8})
	f.Done, f.Held, f.Data = roomy(f.Done, 99), roomy(f.Held, 88), roomy(f.Data, 77)
	return f
}

// whole is the frame with the room behind its lists' ends.
func whole(f api.Frame) api.Frame {
	f.Est, f.Aux = f.Est[:cap(f.Est)], f.Aux[:cap(f.Aux)]
	f.Done, f.Held, f.Data = f.Done[:cap(f.Done)], f.Held[:cap(f.Held)], f.Data[:cap(f.Data)]
	return f
}

// spoil writes into all that frames have, and into the room behind.
func spoil(l []api.Frame) {
	l = l[:cap(l)]
	for i := range l {
		f := whole(l[i])
		fill(f.Est, api.Run{From: 55, First: 55, Count: 55})
		fill(f.Aux, api.Run{From: 56, First: 56, Count: 56})
		fill(f.Done, 5757)
		fill(f.Held, 5858)
		fill(f.Data, 59)
		l[i] = api.Frame{Seq: 5555, Data: []byte("another one")}
	}
}

// watched is a link, and beside it what the chapter says of it: all chunks that were ever
// put in, by their numbers, and which of them were sent and which acknowledged. Each call is
// held against that, and all that a link tells is looked at behind it. What is handed in,
// and what is answered, is written into at once.
type watched struct {
	t           *testing.T
	link        *link.Link
	me, peer    uint8
	width       int
	again       int64
	put         map[uint64]string
	sent, acked map[uint64]bool
	in          []string
	owes        bool
	tick, asked int64
	calls       []string
	next        int
}

func watchOf(t *testing.T, me, peer uint8, width int, again int64) *watched {
	t.Helper()
	w := &watched{
		t: t, link: link.New(me, peer, width, again), me: me, peer: peer, width: width, again: again,
		put: map[uint64]string{}, sent: map[uint64]bool{}, acked: map[uint64]bool{},
	}
	if width < 1 {
		w.width = 1
	}
	if width > 64 {
		w.width = 64
	}
	if again < 1 {
		w.again = 1
	}
	if again > lastTick {
		w.again = lastTick
	}
	w.called("New(%d, %d, %d, %d)", me, peer, width, again)
	w.look()
	return w
}

func watch(t *testing.T, width int, again int64) *watched {
	t.Helper()
	return watchOf(t, me, peer, width, again)
}

func (w *watched) called(format string, l ...any) {
	w.calls = append(w.calls, fmt.Sprintf(format, l...))
}

func (w *watched) fail(format string, l ...any) {
	w.t.Helper()
	row := strings.Join(w.calls[max(0, len(w.calls)-25):], ", ")
	w.t.Fatalf("%s: %s", row, fmt.Sprintf(format, l...))
}

// look looks at all that a link tells.
func (w *watched) look() {
	w.t.Helper()
	waits := len(w.put) - len(w.acked)
	if w.link.Waits() != waits || w.link.Room() != w.width-waits || w.link.Upto() != uint64(len(w.in)) {
		w.fail("Waits, Room, Upto = %d, %d, %d, want %d, %d, %d",
			w.link.Waits(), w.link.Room(), w.link.Upto(), waits, w.width-waits, len(w.in))
	}
}

// give sends so many frames, each another one.
func (w *watched) give(size int) {
	w.t.Helper()
	w.giveFrames(frames(w.next, size)...)
	w.next += size
}

func (w *watched) giveFrames(l ...api.Frame) {
	w.t.Helper()
	w.called("Send of %d", len(l))
	handed, kept := make([]api.Frame, len(l), len(l)+2), make([]string, len(l))
	for i, f := range l {
		handed[i] = wide(f)
		kept[i] = text(whole(handed[i]))
	}
	got, want := w.link.Send(handed...), 0
	for i, f := range l {
		if text(whole(handed[i])) != kept[i] {
			w.fail("what is handed in is changed: %v, want %s", handed[i], kept[i])
		}
		if len(w.put)-len(w.acked) < w.width {
			f.Kind, f.From, f.To, f.Seq = 1, w.me, w.peer, uint64(len(w.put)+1)
			w.put[f.Seq] = text(f)
			want++
		}
	}
	if len(handed[:cap(handed)]) > len(l) && text(handed[:cap(handed)][len(l)]) != text(api.Frame{}) {
		w.fail("the room behind what is handed in is changed")
	}
	spoil(handed)
	if got != want {
		w.fail("Send = %d, want %d", got, want)
	}
	w.look()
}

func (w *watched) come(f api.Frame) {
	w.t.Helper()
	w.called("Come of kind %d, %d from %d to %d", f.Kind, f.Seq, f.From, f.To)
	handed := wide(f)
	kept := text(whole(handed))
	got, ok := w.link.Come(handed)
	if text(whole(handed)) != kept {
		w.fail("what is handed in is changed: %v, want %s", handed, kept)
	}
	want, wantOK := w.came(f)
	if text(got) != want || ok != wantOK {
		w.fail("Come = %v, %v, want %s, %v", got, ok, want, wantOK)
	}
	spoil([]api.Frame{got})
	if text(whole(handed)) != kept {
		w.fail("what is answered is what was handed in: %v", handed)
	}
	spoil([]api.Frame{handed})
	w.look()
}

// came is what the chapter says of a frame that comes.
func (w *watched) came(f api.Frame) (string, bool) {
	mine := f.From == w.peer && f.To == w.me
	if mine && f.Kind == 2 && f.Seq <= uint64(len(w.put)) {
		w.ackedUpto(f.Seq)
	}
	if mine && f.Kind == 1 {
		w.owes = true
		if f.Seq == uint64(len(w.in))+1 {
			w.in = append(w.in, text(f))
			return text(f), true
		}
	}
	return text(api.Frame{}), false
}

func (w *watched) ackedUpto(seq uint64) {
	for n := uint64(1); n <= seq; n++ {
		if !w.acked[n] {
			w.acked[n] = true
			w.tick = w.asked
		}
	}
}

func (w *watched) out(now int64) {
	w.t.Helper()
	w.called("Out(%d)", now)
	got, want := w.link.Out(now), w.goesOut(now)
	if !slices.Equal(texts(got), want) {
		w.fail("Out = %q, want %q", texts(got), want)
	}
	spoil(got)
	w.look()
}

// goesOut is what the chapter says that goes out, by going through all numbers that were given.
func (w *watched) goesOut(now int64) []string {
	now = min(max(now, 0), lastTick)
	w.asked = now
	var out, waiting, unsent []string
	if w.owes {
		out = append(out, text(api.Frame{Head: api.Head{Kind: 2, From: w.me, To: w.peer}, Seq: uint64(len(w.in))}))
		w.owes = false
	}
	for n := uint64(1); n <= uint64(len(w.put)); n++ {
		if !w.acked[n] {
			waiting = append(waiting, w.put[n])
			if !w.sent[n] {
				unsent = append(unsent, w.put[n])
			}
			w.sent[n] = true
		}
	}
	if len(waiting) > len(unsent) && now >= w.tick+w.again {
		w.tick = now
		return append(out, waiting...)
	}
	if len(unsent) > 0 && len(unsent) == len(waiting) {
		w.tick = now
	}
	return append(out, unsent...)
}

func wantNumbers(t *testing.T, l *link.Link, waits, room int, upto uint64) {
	t.Helper()
	if l.Waits() != waits || l.Room() != room || l.Upto() != upto {
		t.Errorf("Waits, Room, Upto = %d, %d, %d, want %d, %d, %d", l.Waits(), l.Room(), l.Upto(), waits, room, upto)
	}
}

func wantSend(t *testing.T, l *link.Link, want int, f ...api.Frame) {
	t.Helper()
	if got := l.Send(f...); got != want {
		t.Errorf("Send of %d = %d, want %d", len(f), got, want)
	}
}

// wantOut holds what goes out against a text: a is an ack, c a chunk, each with its number.
func wantOut(t *testing.T, l *link.Link, now int64, want string) {
	t.Helper()
	var got []string
	for _, f := range l.Out(now) {
		kind := map[uint8]string{1: "c", 2: "a"}[f.Kind]
		got = append(got, fmt.Sprint(kind, f.Seq))
		if f.From != me || f.To != peer || kind == "" {
			t.Errorf("Out(%d) has %v", now, f)
		}
	}
	if strings.Join(got, " ") != want {
		t.Errorf("Out(%d) = %s, want %s", now, got, want)
	}
}

func wantCome(t *testing.T, l *link.Link, f api.Frame, want bool) {
	t.Helper()
	wanted := api.Frame{}
	if want {
		wanted = f
	}
	if got, ok := l.Come(f); ok != want || text(got) != text(wanted) {
		t.Errorf("Come(%v) = %v, %v, want %v, %v", f, got, ok, wanted, want)
	}
}

func TestExample(t *testing.T) { // P10.1
	for _, again := range []int64{2, 3, 10} {
		l := link.New(me, peer, 4, again)
		wantSend(t, l, 1, frame(0))
		wantOut(t, l, 0, "c1")
		wantOut(t, l, 1, "")
		wantOut(t, l, again, "c1")
	}
}

func TestARow(t *testing.T) { // P10.1, P10.2: with the answers written out
	l := link.New(me, peer, 3, 5)
	wantNumbers(t, l, 0, 3, 0)
	wantOut(t, l, 9, "")
	wantSend(t, l, 2, frames(0, 2)...)
	wantNumbers(t, l, 2, 1, 0)
	wantOut(t, l, 10, "c1 c2")
	wantSend(t, l, 1, frames(2, 4)...)
	wantNumbers(t, l, 3, 0, 0)
	wantOut(t, l, 14, "c3")
	wantCome(t, l, chunk(2), false)
	wantCome(t, l, chunk(1), true)
	wantNumbers(t, l, 3, 0, 1)
	wantOut(t, l, 15, "a1 c1 c2 c3")
	wantOut(t, l, 15, "")
	wantOut(t, l, 19, "")
	wantCome(t, l, ack(1), false)
	wantNumbers(t, l, 2, 1, 1)
	wantOut(t, l, 20, "")
	wantSend(t, l, 1, frame(7))
	wantOut(t, l, 23, "c4")
	wantOut(t, l, 24, "c2 c3 c4")
	wantCome(t, l, chunk(1), false)
	wantOut(t, l, 28, "a1")
	wantCome(t, l, ack(4), false)
	wantNumbers(t, l, 0, 3, 1)
	wantSend(t, l, 2, frames(8, 2)...)
	wantOut(t, l, 28, "c5 c6")
	wantOut(t, l, 32, "")
	wantOut(t, l, 33, "c5 c6")
	wantCome(t, l, chunk(2), true)
	wantCome(t, l, chunk(3), true)
	wantNumbers(t, l, 2, 1, 3)
	wantOut(t, l, 34, "a3")
}

func TestWidth(t *testing.T) { // P10.1
	for width, want := range map[int]int{
		math.MinInt: 1, -64: 1, -1: 1, 0: 1, 1: 1, 2: 2, 3: 3,
		63: 63, 64: 64, 65: 64, 128: 64, math.MaxInt: 64,
	} {
		l := link.New(me, peer, width, 3)
		wantNumbers(t, l, 0, want, 0)
		wantSend(t, l, want, frames(0, want+1)...)
		wantNumbers(t, l, want, 0, 0)
		if got := l.Out(0); len(got) != want || got[want-1].At != frame(want-1).At {
			t.Errorf("width %d: %d go out", width, len(got))
		}
		wantSend(t, l, 0, frame(9))
		wantCome(t, l, ack(1), false)
		wantNumbers(t, l, want-1, 1, 0)
		wantSend(t, l, 1, frames(9, 2)...)
		wantNumbers(t, l, want, 0, 0)
	}
}

func TestAgain(t *testing.T) { // P10.1: at ticks about the one at which all that waits goes out again
	for again, want := range map[int64]int64{
		math.MinInt64: 1, -lastTick: 1, -1: 1, 0: 1, 1: 1, 2: 2, 3: 3, 100: 100, lastTick - 1: lastTick - 1,
		lastTick: lastTick, lastTick + 1: lastTick, 2 * lastTick: lastTick, math.MaxInt64: lastTick,
	} {
		for _, start := range []int64{0, 1, 7, lastTick - 1} {
			for _, off := range []int64{-1, 0, 1} {
				at := start + want + off
				l := link.New(me, peer, 4, again)
				wantSend(t, l, 2, frames(0, 2)...)
				wantOut(t, l, start, "c1 c2")
				due := ""
				if min(at, lastTick) >= start+want {
					due = "c1 c2"
				}
				wantOut(t, l, at, due)
				wantOut(t, l, at, "")
			}
		}
		w := watch(t, 3, again)
		w.give(2)
		for _, now := range []int64{0, want - 1, want, want, want + 1, 2*want - 1, 2 * want, 2*want + 1, 3 * want, 3*want + 1} {
			w.out(now)
		}
	}
}

func TestSend(t *testing.T) { // P10.1
	for width := range 5 {
		for first := range 6 {
			for upto := range uint64(6) {
				for size := range 7 {
					w := watch(t, width, 4)
					w.give(first)
					w.out(1)
					w.come(ack(upto))
					w.give(size)
					w.out(2)
					w.give(0)
					w.out(5)
				}
			}
		}
	}
}

func TestSendOfNone(t *testing.T) { // P10.1, P0.5
	w := watch(t, 2, 3)
	for range 4 {
		w.give(0)
		wantSend(t, w.link, 0)
		wantSend(t, w.link, 0, []api.Frame(nil)...)
		wantSend(t, w.link, 0, []api.Frame{}...)
		w.look()
		w.out(3)
		w.give(1)
	}
}

func TestSendOfMany(t *testing.T) { // P10.1: far more than there is room for
	w := watch(t, 64, 3)
	w.give(300)
	w.out(1)
	w.come(ack(60))
	w.give(300)
	w.out(2)
	w.out(9)
}

func TestTheHeadIsTheLinks(t *testing.T) { // P10.1: whatever a frame came in with
	w := watch(t, 64, 3)
	for kind := range 12 {
		for _, ends := range [][2]uint8{{0, 0}, {me, peer}, {peer, me}, {me, me}, {255, 0}} {
			f := from(uint8(kind), ends[0], ends[1], uint64(kind))
			w.giveFrames(f)
		}
	}
	w.giveFrames(from(255, 255, 255, huge), from(0, 0, 0, 0), api.Frame{}, api.Frame{})
	w.out(0)
	w.out(3)
}

func TestAllElseOfAChunkStays(t *testing.T) { // P10.1, P0.5
	most := api.Frame{
		Head: api.Head{Kind: 255, From: 255, To: 255}, ID: api.ID{From: 255, Seq: huge}, Seq: huge,
		At: math.MaxUint32, Of: math.MaxUint32, Size: math.MaxUint32, Inst: huge, Round: huge,
		Est: []api.Run{{From: 255, First: huge, Count: huge}}, Aux: []api.Run{{}},
		Done: []uint64{huge, 0}, Held: make([]uint64, 100), Data: []byte(strings.Repeat("ab", 5000)),
	}
	empty := api.Frame{Est: []api.Run{}, Aux: []api.Run{}, Done: []uint64{}, Held: []uint64{}, Data: []byte{}}
	bare := api.Frame{ID: api.ID{From: 2, Seq: 9}, At: 1, Of: 2, Size: 3, Data: []byte("abc")}
	w := watch(t, 8, 2)
	w.giveFrames(most, empty, bare, api.Frame{}, frame(1))
	w.out(0)
	w.out(2)
	for n, f := range []api.Frame{most, empty, bare, {}, frame(2)} {
		f.Head, f.Seq = api.Head{Kind: 1, From: peer, To: me}, uint64(n+1)
		w.come(f)
	}
}

func TestOutWhereWordIsOwedAndChunksWait(t *testing.T) { // P10.1
	l := link.New(me, peer, 4, 3)
	wantSend(t, l, 2, frames(0, 2)...)
	wantCome(t, l, chunk(1), true)
	wantOut(t, l, 5, "a1 c1 c2")
	wantOut(t, l, 5, "")
	wantCome(t, l, chunk(1), false) // an old one
	wantSend(t, l, 1, frame(2))
	wantOut(t, l, 5, "a1 c3")
	wantOut(t, l, 5, "")
	wantCome(t, l, chunk(3), false) // one that is ahead
	wantOut(t, l, 8, "a1 c1 c2 c3")
	wantOut(t, l, 8, "")
	wantCome(t, l, chunk(0), false)
	wantOut(t, l, 9, "a1")
	wantOut(t, l, 9, "")
}

func TestWordIsOwedAtOnce(t *testing.T) { // P10.1: of a link into which nothing was let, too; all that came is told by one
	l := link.New(me, peer, 4, 3)
	wantCome(t, l, chunk(2), false)
	wantOut(t, l, 0, "a0")
	wantOut(t, l, 0, "")
	for n := uint64(1); n < 9; n++ {
		wantCome(t, l, chunk(n), true)
		wantCome(t, l, chunk(n), false)
	}
	wantOut(t, l, 0, "a8")
	wantOut(t, l, 100, "")
	wantCome(t, l, ack(0), false)
	wantOut(t, l, 101, "")
}

func TestChunksThatWereNotSent(t *testing.T) { // P10.1: behind others that were sent, they don't move the tick; else they do
	l := link.New(me, peer, 9, 4)
	wantSend(t, l, 2, frames(0, 2)...)
	wantOut(t, l, 10, "c1 c2")
	wantSend(t, l, 1, frame(2))
	wantOut(t, l, 13, "c3")
	wantSend(t, l, 1, frame(3))
	wantOut(t, l, 14, "c1 c2 c3 c4")
	wantSend(t, l, 1, frame(4))
	wantOut(t, l, 17, "c5")
	wantCome(t, l, ack(5), false)
	wantSend(t, l, 2, frames(5, 2)...)
	wantOut(t, l, 19, "c6 c7")
	wantOut(t, l, 22, "")
	wantOut(t, l, 23, "c6 c7")

	l = link.New(me, peer, 9, 4)
	wantSend(t, l, 2, frames(0, 2)...)
	wantOut(t, l, 10, "c1 c2")
	wantCome(t, l, ack(2), false)
	wantSend(t, l, 2, frames(2, 2)...)
	wantOut(t, l, 14, "c3 c4")
	wantSend(t, l, 1, frame(4))
	wantOut(t, l, 17, "c5")
	wantOut(t, l, 18, "c3 c4 c5")
}

func TestAcksOfWhatWasNotSent(t *testing.T) { // P10.1: a number was given to a chunk though it didn't go out
	l := link.New(me, peer, 9, 4)
	wantSend(t, l, 3, frames(0, 3)...)
	wantCome(t, l, ack(2), false)
	wantNumbers(t, l, 1, 8, 0)
	wantOut(t, l, 2, "c3")
	wantOut(t, l, 5, "")
	wantOut(t, l, 6, "c3")
	wantSend(t, l, 3, frames(3, 3)...)
	wantCome(t, l, ack(4), false)
	wantOut(t, l, 7, "c5 c6")
	wantOut(t, l, 10, "")
	wantOut(t, l, 11, "c5 c6")
}

func TestAcksMoveTheTick(t *testing.T) { // P10.1: to the one of the last Out, if some chunks go
	for _, row := range []struct {
		upto     uint64
		moves    bool
		out, due string
	}{
		{0, false, "c1 c2 c3", "c1 c2 c3"}, {1, true, "", "c2 c3"}, {2, true, "", "c3"}, {3, true, "", ""},
		{4, false, "c1 c2 c3", "c1 c2 c3"}, {1 << 62, false, "c1 c2 c3", "c1 c2 c3"},
		{huge - 1, false, "c1 c2 c3", "c1 c2 c3"}, {huge, false, "c1 c2 c3", "c1 c2 c3"},
	} {
		l := link.New(me, peer, 3, 10)
		wantSend(t, l, 3, frames(0, 3)...)
		wantOut(t, l, 100, "c1 c2 c3")
		wantOut(t, l, 107, "")
		wantCome(t, l, ack(row.upto), false)
		wantOut(t, l, 109, "")
		wantOut(t, l, 110, row.out)
		wantOut(t, l, 116, "")
		if row.moves {
			wantOut(t, l, 117, row.due)
		} else {
			wantOut(t, l, 117, "")
			wantOut(t, l, 120, row.due)
		}
	}
	l := link.New(me, peer, 3, 10) // the second time none go by it
	wantSend(t, l, 3, frames(0, 3)...)
	wantOut(t, l, 100, "c1 c2 c3")
	wantCome(t, l, ack(1), false)
	wantOut(t, l, 105, "")
	wantCome(t, l, ack(1), false)
	wantOut(t, l, 109, "")
	wantOut(t, l, 110, "c2 c3")
	wantCome(t, l, ack(0), false)
	wantOut(t, l, 120, "c2 c3")
}

func TestAcks(t *testing.T) { // P10.1
	for _, upto := range []uint64{0, 1, 2, 3, 4, 5, 6, 1 << 62, 1 << 63, huge - 1, huge} {
		for first := range uint64(5) {
			for now := range int64(6) {
				w := watch(t, 3, 3)
				w.come(ack(upto))
				w.give(3)
				w.out(2)
				w.come(ack(first))
				w.give(3)
				w.out(now)
				w.come(ack(upto))
				w.come(ack(upto))
				for at := now; at < now+8; at++ {
					w.out(at)
				}
			}
		}
	}
}

func TestChunksThatCome(t *testing.T) { // P10.1, P10.2
	numbers := []uint64{0, 1, 2, 3, 4, 5, 1 << 62, 1<<63 - 1, 1 << 63, huge - 1, huge}
	for _, a := range numbers {
		for _, b := range numbers {
			for _, c := range numbers {
				w := watch(t, 1, 1)
				w.come(chunk(a))
				w.come(chunk(b))
				w.out(0)
				w.come(chunk(c))
				w.come(chunk(1))
				w.out(0)
				w.out(0)
			}
		}
	}
	w := watch(t, 1, 1)
	for n := uint64(1); n < 200; n++ {
		w.come(chunk(n + 1))
		w.come(chunk(n))
		w.come(chunk(n - 1))
		w.out(int64(n))
	}
}

func TestWhatComesInIsTakenAsItIs(t *testing.T) { // P10.1: its Seq too, and fields that chunks of the wire haven't
	l := link.New(me, peer, 1, 1)
	for n := uint64(1); n < 9; n++ {
		f := frame(int(n) * 31)
		f.Head, f.Seq = api.Head{Kind: 1, From: peer, To: me}, n
		wantCome(t, l, f, true)
	}
}

func TestTicks(t *testing.T) { // P10.1: that stay, fall, are below 0 and above MaxTick
	ticks := []int64{math.MinInt64, -lastTick, -1, 0, 1, 2, 3, lastTick - 2, lastTick - 1, lastTick, lastTick + 1, lastTick + 2, math.MaxInt64}
	for _, again := range []int64{1, 2, 3, lastTick - 1, lastTick} {
		for _, a := range ticks {
			for _, b := range ticks {
				for _, c := range ticks {
					w := watch(t, 4, again)
					w.give(1)
					w.out(a)
					w.give(1)
					w.out(b)
					w.come(ack(1))
					w.out(c)
					w.out(b)
					w.give(1)
					w.out(a)
					w.out(c)
				}
			}
		}
	}
}

func TestTicksThatFall(t *testing.T) { // P10.1: with the answers written out
	l := link.New(me, peer, 4, 3)
	wantSend(t, l, 2, frames(0, 2)...)
	wantOut(t, l, 10, "c1 c2")
	wantOut(t, l, 0, "")
	wantOut(t, l, -5, "")
	wantOut(t, l, 12, "")
	wantOut(t, l, 4, "")
	wantCome(t, l, ack(1), false) // its tick is 4 then
	wantOut(t, l, 6, "")
	wantOut(t, l, 7, "c2")
	wantCome(t, l, ack(2), false)
	wantSend(t, l, 1, frame(2))
	wantOut(t, l, -1, "c3") // its tick is 0 then
	wantOut(t, l, 2, "")
	wantOut(t, l, 3, "c3")
	wantOut(t, l, math.MaxInt64, "c3") // its tick is MaxTick then
	wantOut(t, l, math.MaxInt64, "")
	wantOut(t, l, lastTick, "")
	wantOut(t, l, lastTick-3, "")
}

func TestNil(t *testing.T) { // P10.1, P0.1
	var l *link.Link
	for range 2 {
		wantNumbers(t, l, 0, 0, 0)
		wantSend(t, l, 0)
		wantSend(t, l, 0, frame(0), frame(1))
		for _, f := range []api.Frame{{}, chunk(0), chunk(1), chunk(huge), ack(0), ack(1), ack(huge), from(1, 0, 0, 1), from(2, 0, 0, 1)} {
			wantCome(t, l, f, false)
		}
		for _, now := range []int64{math.MinInt64, -1, 0, 1, lastTick, math.MaxInt64} {
			wantOut(t, l, now, "")
		}
	}
}

func TestFramesOfOthers(t *testing.T) { // P10.1
	ends := []uint8{0, 1, me, 4, peer, 6, 63, 64, 128, 255}
	for _, a := range ends {
		for _, b := range ends {
			for kind := uint8(1); kind <= 2; kind++ {
				w := watch(t, 3, 2)
				w.give(2)
				w.out(0)
				w.come(from(kind, a, b, 1))
				w.out(1)
				w.come(from(kind, a, b, 2))
				w.out(2)
				w.out(3)
			}
		}
	}
	for _, a := range ends { // links between any two, one with itself too
		for _, b := range ends {
			w := watchOf(t, a, b, 2, 2)
			w.give(1)
			w.out(0)
			for kind := uint8(1); kind <= 2; kind++ {
				w.come(from(kind, a, b, 1))
				w.come(from(kind, b, a, 1))
			}
			w.out(1)
			w.out(2)
		}
	}
}

func TestOtherKinds(t *testing.T) { // P10.1
	for kind := range 256 {
		w := watch(t, 3, 2)
		w.give(2)
		w.out(0)
		w.come(from(uint8(kind), peer, me, 1))
		w.out(1)
		w.come(from(uint8(kind), peer, me, 2))
		w.out(2)
		w.out(3)
	}
}

func TestLinksShareNothing(t *testing.T) { // P10.1, P0.4
	a, b := watch(t, 3, 2), watch(t, 3, 2)
	a.give(2)
	b.look()
	b.out(4)
	b.come(chunk(1))
	a.look()
	a.out(4)
	a.come(ack(1))
	b.give(1)
	b.out(5)
	a.out(5)
	a.look()
	b.look()
}

// do does one of many calls, by two numbers; the tick is one of those about now.
func (w *watched) do(what, n int, now *int64) {
	w.t.Helper()
	switch what {
	case 0:
		w.give(n % 4)
	case 1:
		w.come(chunk(uint64(len(w.in) + n%4)))
	case 2:
		w.come(ack(uint64(max(0, len(w.put)-3) + n%5)))
	case 3, 4:
		*now += int64(n % 3)
		w.out(*now)
	case 5:
		w.out(*now - int64(n%7))
	case 6:
		w.come(ack(uint64(len(w.acked) + n%2)))
	case 7:
		f := from(uint8(1+n%3), peer+uint8(n/3%2), me+uint8(n/6%2), uint64(1+n%4))
		w.come(f)
	}
}

func TestAllSmallRows(t *testing.T) { // P10.1, P10.2: each row of five calls of these, of a new link and of one that has sent
	calls := []func(w *watched, now *int64){
		func(w *watched, now *int64) { w.give(1) },
		func(w *watched, now *int64) { w.give(2) },
		func(w *watched, now *int64) { w.out(*now) },
		func(w *watched, now *int64) { *now++; w.out(*now) },
		func(w *watched, now *int64) { *now += 2; w.out(*now) },
		func(w *watched, now *int64) { w.come(ack(uint64(len(w.acked) + 1))) },
		func(w *watched, now *int64) { w.come(chunk(uint64(len(w.in) + 1))) },
	}
	size := 2
	for range 5 {
		size *= len(calls)
	}
	for row := range size {
		w, now := watch(t, 2, 2), int64(0)
		if row%2 == 1 {
			w.give(2)
			w.out(now)
		}
		for rest, i := row/2, 0; i < 5; i++ {
			calls[rest%len(calls)](w, &now)
			rest /= len(calls)
		}
	}
}

func TestRandomRows(t *testing.T) { // P10.1, P10.2, P0.4
	r := rand.New(rand.NewSource(10))
	for range 1500 {
		w, now := watch(t, r.Intn(6), int64(r.Intn(6))), int64(r.Intn(5))
		for range 60 {
			w.do(r.Intn(8), r.Intn(1000), &now)
		}
	}
}

func TestTheSameRowAnswersTheSame(t *testing.T) { // P0.6
	var first []string
	for range 5 {
		r := rand.New(rand.NewSource(3))
		l, other := link.New(me, peer, 4, 3), link.New(peer, me, 4, 3)
		var all []string
		for now := range int64(100) {
			sent := l.Send(frames(int(now), r.Intn(4))...)
			for _, f := range l.Out(now) {
				if r.Intn(3) > 0 {
					got, ok := other.Come(f)
					all = append(all, fmt.Sprint(got, ok))
				}
			}
			for _, f := range other.Out(now) {
				l.Come(f)
			}
			all = append(all, fmt.Sprint(sent, l.Waits(), l.Room(), other.Upto()))
		}
		if first == nil {
			first = all
		}
		if !slices.Equal(all, first) {
			t.Fatal("the same calls were answered otherwise")
		}
	}
}

// pair is two links, with what is on its way between them, what each side sent and what each let in.
type pair struct {
	t        *testing.T
	side     [2]*link.Link
	way      [2][]api.Frame // to this side
	sent, in [2][]string
	row      string
}

func newPair(t *testing.T, widths [2]int, again int64) *pair {
	return &pair{
		t: t, side: [2]*link.Link{link.New(me, peer, widths[0], again), link.New(peer, me, widths[1], again)},
		row: fmt.Sprintf("widths %d, again %d: ", widths, again),
	}
}

// said is what of a chunk isn't the link's own.
func said(f api.Frame) string {
	f.Head, f.Seq = api.Head{}, 0
	return text(f)
}

func (p *pair) send(i, size int) {
	l := frames(100*i+len(p.sent[i]), size)
	n := p.side[i].Send(l...)
	for _, f := range l[:n] {
		p.sent[i] = append(p.sent[i], said(f))
	}
	p.row += fmt.Sprintf("%d sends %d; ", i, n)
}

// tick lets a side tell what goes out.
func (p *pair) tick(i int, now int64) {
	p.way[1-i] = append(p.way[1-i], p.side[i].Out(now)...)
	p.row += fmt.Sprintf("%d ticks at %d; ", i, now)
}

// come lets what is at a place of the way to a side come; what stays comes twice.
func (p *pair) come(i, at int, stays bool) {
	p.t.Helper()
	f := p.way[i][at]
	if !stays {
		p.way[i] = slices.Delete(p.way[i], at, at+1)
	}
	p.row += fmt.Sprintf("to %d comes kind %d of %d; ", i, f.Kind, f.Seq)
	if got, ok := p.side[i].Come(f); ok {
		p.in[i] = append(p.in[i], said(got))
	}
	p.look()
}

func (p *pair) lose(i, at int) {
	p.row += fmt.Sprintf("to %d is lost kind %d of %d; ", i, p.way[i][at].Kind, p.way[i][at].Seq)
	p.way[i] = slices.Delete(p.way[i], at, at+1)
}

// look looks whether what was let in is a front of what was sent, and nothing is acknowledged that wasn't let in.
func (p *pair) look() {
	p.t.Helper()
	for i, l := range p.side {
		sent, in := p.sent[1-i], p.in[i]
		if len(in) > len(sent) || !slices.Equal(in, sent[:len(in)]) || l.Upto() != uint64(len(in)) {
			p.t.Fatalf("%s: %d let in %d: %q of %q", p.row, i, l.Upto(), in, sent)
		}
		if p.side[1-i].Waits() < len(sent)-len(in) {
			p.t.Fatalf("%s: of %d chunks that weren't let in only %d wait", p.row, len(sent)-len(in), p.side[1-i].Waits())
		}
	}
}

func (p *pair) all() bool {
	return len(p.in[0]) == len(p.sent[1]) && len(p.in[1]) == len(p.sent[0]) && p.side[0].Waits()+p.side[1].Waits() == 0
}

// atLast lets all that goes out on both sides come, each tick from now on, in one of three ways, and
// tells how many ticks it took till all was let in and acknowledged.
func (p *pair) atLast(now int64, how int, most int64) int64 {
	p.t.Helper()
	p.way = [2][]api.Frame{}
	p.row += "all comes from here on; "
	took := int64(0)
	for ; !p.all(); took++ {
		if took >= most {
			p.t.Fatalf("%s: %d ticks weren't enough", p.row, most)
		}
		for _, i := range [][]int{{0, 1}, {1, 0}, {0, 1}}[how%3] {
			p.tick(i, now+took)
			for how == 2 && len(p.way[1-i]) > 0 { // at once: ahead of what the other side tells
				p.come(1-i, 0, false)
			}
		}
		for i := range p.way {
			for len(p.way[i]) > 0 {
				p.come(i, 0, false)
			}
		}
	}
	return took
}

// disturb does a step by which things are lost, come twice, and in another order.
func (p *pair) disturb(r *rand.Rand, now *int64) {
	p.t.Helper()
	i := r.Intn(2)
	switch n := len(p.way[i]); r.Intn(9) {
	case 0:
		p.send(i, r.Intn(4))
	case 1, 2:
		*now += int64(r.Intn(2))
		p.tick(i, *now)
	case 3, 4, 5:
		if n > 0 {
			p.come(i, r.Intn(n), false)
		}
	case 6:
		if n > 0 {
			p.come(i, r.Intn(n), true)
		}
	case 7:
		if n > 0 {
			p.lose(i, r.Intn(n))
		}
	case 8:
		if n > 0 {
			p.come(i, 0, false)
		}
	}
}

func TestFirstInFirstOutAtLast(t *testing.T) { // P10.2, P10.3
	r := rand.New(rand.NewSource(2))
	for again := int64(1); again < 8; again++ {
		longest := int64(0)
		for range 1500 {
			p, now := newPair(t, [2]int{1 + r.Intn(6), 1 + r.Intn(6)}, again), int64(r.Intn(3))
			for range r.Intn(90) {
				p.disturb(r, &now)
			}
			took := p.atLast(now+1, r.Intn(3), again+3)
			longest = max(longest, took)
			p.atLast(now+1+took, 0, 0)
			p.send(0, 9)
			p.send(1, 9)
			p.atLast(now+1+took, r.Intn(3), again+3)
		}
		if longest < again+1 { // else nothing was so lost that it had to be sent again
			t.Errorf("again %d: it took %d ticks at most", again, longest)
		}
	}
}

// TestFirstInFirstOutOfSmallRows: all rows of steps of one side that sends, and one that lets in.
func TestFirstInFirstOutOfSmallRows(t *testing.T) { // P10.2, P10.3
	const steps, length = 6, 6
	size := 1
	for range length {
		size *= steps
	}
	for row := range size {
		p, now := newPair(t, [2]int{2, 1}, 2), int64(0)
		for rest, i := row, 0; i < length; i++ {
			p.step(rest%steps, &now)
			rest /= steps
		}
		p.atLast(now+1, row%3, 5)
	}
}

func (p *pair) step(what int, now *int64) {
	p.t.Helper()
	switch what {
	case 0:
		p.send(0, 2)
	case 1:
		*now++
		p.tick(0, *now)
		p.tick(1, *now)
	case 2:
		if n := len(p.way[1]); n > 0 {
			p.come(1, n-1, true)
		}
	case 3:
		if len(p.way[1]) > 0 {
			p.come(1, 0, false)
		}
	case 4:
		if len(p.way[0]) > 0 {
			p.come(0, 0, false)
		}
	case 5:
		if n := len(p.way[1]); n > 0 {
			p.lose(1, n-1)
		}
	}
}

func TestOfManyChunks(t *testing.T) { // P10.2, P10.3: over a way that loses each third frame
	p := newPair(t, [2]int{64, 5}, 3)
	r := rand.New(rand.NewSource(4))
	now := int64(0)
	for ; now < 400; now++ {
		for i := range p.side {
			p.send(i, r.Intn(9))
			p.tick(i, now)
		}
		for i := range p.way {
			for len(p.way[i]) > 0 {
				if at := r.Intn(len(p.way[i])); r.Intn(3) == 0 {
					p.lose(i, at)
				} else {
					p.come(i, at, r.Intn(8) == 0)
				}
			}
		}
	}
	p.atLast(now, 1, 6)
	if len(p.in[0]) < 100 || len(p.in[1]) < 100 {
		t.Errorf("%d and %d chunks were let in", len(p.in[0]), len(p.in[1]))
	}
}

func FuzzRow(f *testing.F) { // P10.1, P10.2
	f.Add([]byte{2, 3, 0, 3, 3, 0, 1, 1, 3, 1, 6, 1, 3, 9})
	f.Add([]byte{1, 0, 0, 1, 3, 1, 2, 3, 4, 2, 5, 6, 7, 200})
	f.Fuzz(func(t *testing.T, b []byte) {
		if len(b) < 2 || len(b) > 400 {
			return
		}
		w, now := watch(t, int(int8(b[0])), int64(int8(b[1]))), int64(0)
		for b = b[2:]; len(b) > 1; b = b[2:] {
			w.do(int(b[0])%8, int(b[1]), &now)
		}
	})
}
