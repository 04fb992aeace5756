package relay_test

import (
	"fmt"
	"math"
	"slices"
	"strings"
	"testing"

	"unison/api"
	"unison/relay"
)

const (
	least    = math.MinInt
	greatest = math.MaxInt
	last     = 1 << 62 // the greatest number of a message
	over     = math.MaxUint64
	lastAt   = math.MaxUint32
	maxRoom  = 4096
)

// chunk is one with nothing else than its place.
func chunk(from uint8, seq uint64, at uint32) api.Frame {
	return api.Frame{ID: api.ID{From: from, Seq: seq}, At: at}
}

// row is chunks, each written as whose it is, of which message and which one: "0.1.0 2.1.3".
func row(text string) []api.Frame {
	var l []api.Frame
	for _, word := range strings.Fields(text) {
		var from uint8
		var seq uint64
		var at uint32
		if n, err := fmt.Sscanf(word, "%d.%d.%d", &from, &seq, &at); n != 3 || err != nil {
			panic("no chunk: " + word)
		}
		l = append(l, chunk(from, seq, at))
	}
	return l
}

// name is a chunk as row reads it.
func name(f api.Frame) string { return fmt.Sprintf("%d.%d.%d", f.ID.From, f.ID.Seq, f.At) }

func names(l []api.Frame) string {
	var words []string
	for _, f := range l {
		words = append(words, name(f))
	}
	return strings.Join(words, " ")
}

// marked is the chunk with all other fields given, by a mark, in lists with room behind their ends.
func marked(f api.Frame, mark int) api.Frame {
	x := uint64(mark)
	f.Head = api.Head{Kind: uint8(mark), From: uint8(mark + 1), To: uint8(mark + 2)}
	f.Seq, f.Inst, f.Round = x, x+3, x+4
	f.Of, f.Size = uint32(mark+5), uint32(mark+6)
	f.Est = wide(api.Run{From: 7, First: x + 8, Count: 9}, api.Run{From: 10, First: 11, Count: x + 12})[:1+mark%2]
	f.Aux = wide(api.Run{From: 13, First: x + 14, Count: 15})
	f.Done, f.Held = wide(x+16, 17, 18), wide(x + 19)[:mark%2]
	f.Data = wide([]byte(fmt.Sprintf("data of %d", mark))...)
	return f
}

// wide is a list with room behind its end.
func wide[T any](l ...T) []T {
	return append(append(make([]T, 0, 2*len(l)), l...), l...)[:len(l)]
}

// whole is a frame with what stands behind its lists' ends, too.
func whole(f api.Frame) api.Frame {
	f.Est, f.Aux = f.Est[:cap(f.Est)], f.Aux[:cap(f.Aux)]
	f.Done, f.Held, f.Data = f.Done[:cap(f.Done)], f.Held[:cap(f.Held)], f.Data[:cap(f.Data)]
	return f
}

// spoil writes into frames, their lists, and behind the ends of all of these.
func spoil(l []api.Frame) {
	l = l[:cap(l)]
	for i := range l {
		f := whole(l[i])
		fill(f.Est, api.Run{From: 99, First: 99, Count: 99})
		fill(f.Aux, api.Run{From: 88, First: 88, Count: 88})
		fill(f.Done, 77)
		fill(f.Held, 66)
		fill(f.Data, 55)
		l[i] = chunk(0, 1, 0)
	}
}

func fill[T any](l []T, with T) {
	for i := range l {
		l[i] = with
	}
}

// text is a frame as text, into which nobody can write. A nil list is told like an empty one.
func text(f api.Frame) string { return fmt.Sprintf("%+v", f) }

func texts(l []api.Frame) []string {
	var all []string
	for _, f := range l {
		all = append(all, text(f))
	}
	return all
}

// waits is a chunk that is there.
type waits struct {
	from uint8
	seq  uint64
	at   uint32
	text string
}

// watched is a queue, and beside it what the chapter says of it. Each call is held against that, and the queue is looked
// at behind it. What is handed in, and what is answered, is written into at once.
type watched struct {
	t     *testing.T
	q     *relay.Queue
	room  int
	there []waits
	lost  int
	marks int // each chunk that is put in has one of its own
	taken int // the mark of the last one that was answered
	calls []string
}

func watch(t *testing.T, room int) *watched {
	t.Helper()
	w := &watched{t: t, q: relay.New(room), room: room}
	if room < 1 {
		w.room = 1
	}
	if room > maxRoom {
		w.room = maxRoom
	}
	w.called("New(%d)", room)
	w.look()
	return w
}

func (w *watched) called(format string, l ...any) {
	w.calls = append(w.calls, fmt.Sprintf(format, l...))
}

func (w *watched) fail(format string, l ...any) {
	w.t.Helper()
	calls := strings.Join(w.calls[max(0, len(w.calls)-20):], ", ")
	w.t.Fatalf("%.3000s: %s", calls, fmt.Sprintf(format, l...))
}

func (w *watched) wantNumber(name string, got, want int) {
	w.t.Helper()
	if got != want {
		w.fail("%s = %d, want %d", name, got, want)
	}
}

// look looks at what a queue tells and leaves as it is.
func (w *watched) look() {
	w.t.Helper()
	for range 2 {
		w.wantNumber("Len", w.q.Len(), len(w.there))
		w.wantNumber("Lost", w.q.Lost(), w.lost)
	}
	if w.q.Len() > w.room {
		w.fail("Len is %d, of a room of %d", w.q.Len(), w.room)
	}
}

// has tells whether a chunk of the same ID and At is there.
func (w *watched) has(f api.Frame) bool {
	for _, x := range w.there {
		if x.from == f.ID.From && x.seq == f.ID.Seq && x.at == f.At {
			return true
		}
	}
	return false
}

// put puts chunks in, each with a mark of its own, in memory that has room behind its end.
func (w *watched) put(l ...api.Frame) int {
	w.t.Helper()
	w.called("Put(%s)", names(l))
	handed := make([]api.Frame, 0, len(l)+2)
	want := 0
	for _, f := range l {
		w.marks++
		f = marked(f, w.marks)
		handed = append(handed, f)
		if w.has(f) {
			continue
		}
		if len(w.there) == w.room {
			w.lost++
			continue
		}
		w.there = append(w.there, waits{f.ID.From, f.ID.Seq, f.At, text(f)})
		want++
	}
	before := everything(handed)
	w.wantNumber("Put", w.q.Put(handed...), want)
	if got := everything(handed); !slices.Equal(got, before) {
		w.fail("what is handed in is changed: %q, want %q", got, before)
	}
	spoil(handed)
	w.look()
	return want
}

// everything is what stands in frames, and behind the ends of their list and of each one's lists.
func everything(l []api.Frame) []string {
	var all []string
	for _, f := range l[:cap(l)] {
		all = append(all, text(whole(f)))
	}
	return all
}

// strip lets those at the front go that are from one of these.
func (w *watched) strip(but []uint8) {
	for len(w.there) > 0 && slices.Contains(but, w.there[0].from) {
		w.there = w.there[1:]
	}
}

// take takes chunks, and holds them against those that are wanted: their names are told.
func (w *watched) take(most int, but ...uint8) string {
	w.t.Helper()
	w.called("Take(%d, %d)", most, but)
	var want []string
	w.strip(but)
	for n := 0; n < most && len(w.there) > 0; n++ {
		want = append(want, w.there[0].text)
		w.there = w.there[1:]
		w.strip(but)
	}
	handed := wide(but...)
	got := w.q.Take(most, handed...)
	if !slices.Equal(texts(got), want) {
		w.fail("Take = %q, want %q", texts(got), want)
	}
	if !slices.Equal(handed, but) || !slices.Equal(handed[:cap(handed)], append(slices.Clone(but), but...)) {
		w.fail("what is handed in is changed: %d, want %d", handed, but)
	}
	fill(handed[:cap(handed)], 0)
	for _, f := range got {
		if int(f.Seq) <= w.taken {
			w.fail("%s was put in as the %d., and is answered behind the %d.", name(f), f.Seq, w.taken)
		}
		w.taken = int(f.Seq)
	}
	told := names(got)
	spoil(got)
	w.look()
	return told
}

// drain takes all that is left.
func (w *watched) drain() string {
	w.t.Helper()
	l := w.take(greatest)
	w.wantNumber("Len of what was drained", w.q.Len(), 0)
	return l
}

// goes tells whether one of some vectors lets a chunk go.
func goes(x waits, upto [][]uint64) bool {
	for _, v := range upto {
		told := uint64(0)
		if int(x.from) < len(v) {
			told = v[x.from]
		}
		if told >= x.seq {
			return true
		}
	}
	return false
}

// drop lets chunks go, by vectors in memory that has room behind its end.
func (w *watched) drop(upto ...[]uint64) int {
	w.t.Helper()
	w.called("Drop(%.300s)", fmt.Sprint(upto))
	var left []waits
	for _, x := range w.there {
		if !goes(x, upto) {
			left = append(left, x)
		}
	}
	want := len(w.there) - len(left)
	w.there = left
	var handed [][]uint64
	for _, v := range upto {
		handed = append(handed, wide(v...))
	}
	handed = wide(handed...)
	w.wantNumber("Drop", w.q.Drop(handed...), want)
	for i, v := range handed {
		if !slices.Equal(v, upto[i]) || !slices.Equal(v[:cap(v)], append(slices.Clone(upto[i]), upto[i]...)) {
			w.fail("what is handed in is changed: %d, want %d", v, upto[i])
		}
		fill(v[:cap(v)], over)
	}
	fill(handed[:cap(handed)], []uint64{over, over, over})
	w.look()
	return want
}

// wantPut holds how many are put in, and how many are there and were lost then, against what is written out.
func wantPut(t *testing.T, q *relay.Queue, chunks string, put, size, lost int) {
	t.Helper()
	if got := q.Put(row(chunks)...); got != put {
		t.Errorf("Put(%s) = %d, want %d", chunks, got, put)
	}
	wantSizes(t, q, size, lost)
}

// wantTake holds what is taken, and how many are left, against what is written out.
func wantTake(t *testing.T, q *relay.Queue, most int, but []uint8, want string, size int) {
	t.Helper()
	if got := names(q.Take(most, but...)); got != want {
		t.Errorf("Take(%d, %d) = %s, want %s", most, but, got, want)
	}
	wantSizes(t, q, size, q.Lost())
}

// wantDrop holds how many go, and how many are left, against what is written out.
func wantDrop(t *testing.T, q *relay.Queue, want, size int, upto ...[]uint64) {
	t.Helper()
	if got := q.Drop(upto...); got != want {
		t.Errorf("Drop(%d) = %d, want %d", upto, got, want)
	}
	wantSizes(t, q, size, q.Lost())
}

func wantSizes(t *testing.T, q *relay.Queue, size, lost int) {
	t.Helper()
	if n, l := q.Len(), q.Lost(); n != size || l != lost {
		t.Errorf("Len, Lost = %d, %d, want %d, %d", n, l, size, lost)
	}
}
