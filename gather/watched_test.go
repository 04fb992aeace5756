package gather_test

import (
	"bytes"
	"fmt"
	"math"
	"math/rand"
	"slices"
	"strings"
	"testing"

	"unison/api"
	"unison/gather"
)

const (
	least    = math.MinInt
	greatest = math.MaxInt
	mega     = 1048576 // the longest payload
	sixty4   = 65536   // the longest chunk
)

// What is made of a chunk, as the chapter numbers it.
const (
	bad   uint8 = 1
	old   uint8 = 2
	lost  uint8 = 3
	kept  uint8 = 4
	whole uint8 = 5
)

// id is one that may be.
func id(n uint64) api.ID { return api.ID{From: 1, Seq: n} }

// payload is so many bytes, of which no two chunks are alike but by chance.
func payload(size int) []byte {
	p := make([]byte, size)
	rand.New(rand.NewSource(int64(size) + 131)).Read(p)
	return p
}

// lengths are how many bytes each chunk of a payload has: chunks go off it as long as something is left.
func lengths(size, by int) []int {
	if size > mega {
		return nil
	}
	var l []int
	for size > by {
		l = append(l, by)
		size -= by
	}
	return append(l, size)
}

// frames are a payload's chunks.
func frames(x api.ID, p string, by int) []api.Frame {
	all := lengths(len(p), by)
	size, l := uint32(len(p)), make([]api.Frame, len(all))
	for at, n := range all {
		l[at] = api.Frame{ID: x, At: uint32(at), Of: uint32(len(all)), Size: size, Data: []byte(p[:n])}
		p = p[n:]
	}
	return l
}

// begun is a part: its chunks by their numbers.
type begun struct {
	id     api.ID
	size   int
	chunks map[uint32]string
}

// watched is a gatherer, and beside it what the chapter says of it. Each call is held against that, and the gatherer is
// looked at behind it. What is handed in, and what is answered, is written into at once.
type watched struct {
	t                 *testing.T
	g                 *gather.Gather
	chunk, most, room int
	parts             []begun
	wanted            []api.ID // one, or none
	made              [256]int
	ids               map[api.ID]bool // all that were told
	calls             []string
}

func watch(t *testing.T, chunk, most, room int) *watched {
	t.Helper()
	w := &watched{t: t, g: gather.New(chunk, most, room), chunk: chunk, most: most, room: room, ids: map[api.ID]bool{}}
	if chunk < 1 {
		w.chunk = 1
	}
	if chunk > sixty4 {
		w.chunk = sixty4
	}
	if most < 0 {
		w.most = 0
	}
	if most > mega {
		w.most = mega
	}
	if room < w.most {
		w.room = w.most
	}
	w.called("New(%d, %d, %d)", chunk, most, room)
	w.look()
	return w
}

func (w *watched) called(format string, l ...any) {
	w.calls = append(w.calls, fmt.Sprintf(format, l...))
}

func (w *watched) fail(format string, l ...any) {
	w.t.Helper()
	row := strings.Join(w.calls[max(0, len(w.calls)-20):], ", ")
	w.t.Fatalf("%.3000s: %s", row, fmt.Sprintf(format, l...))
}

func (w *watched) used() int {
	n := 0
	for _, p := range w.parts {
		n += p.size
	}
	return n
}

// place is where an id's part stands; -1, if there is none.
func (w *watched) place(x api.ID) int {
	for i, p := range w.parts {
		if p.id.From == x.From && p.id.Seq == x.Seq {
			return i
		}
	}
	return -1
}

// canBe tells whether a frame can be a chunk of a payload.
func (w *watched) canBe(f api.Frame) bool {
	if f.ID.From > 63 || f.ID.Seq == 0 || f.ID.Seq > 1<<62 || int(f.Size) > w.most {
		return false
	}
	l := lengths(int(f.Size), w.chunk)
	return int(f.Of) == len(l) && f.At < f.Of && len(f.Data) == l[f.At]
}

// came is what the chapter makes of a chunk, and the payload.
func (w *watched) came(f api.Frame) (string, uint8) {
	i := w.place(f.ID)
	if !w.canBe(f) || i >= 0 && w.parts[i].size != int(f.Size) {
		return "", bad
	}
	if i >= 0 && hasChunk(w.parts[i], f.At) {
		return "", old
	}
	if i < 0 {
		for int(f.Size) > w.room-w.used() {
			if !slices.Contains(w.wanted, f.ID) {
				return "", lost
			}
			w.parts = w.parts[1:]
			w.made[lost]++
		}
		i = len(w.parts)
		w.parts = append(w.parts, begun{id: f.ID, size: int(f.Size), chunks: map[uint32]string{}})
	}
	w.parts[i].chunks[f.At] = string(f.Data)
	all := ""
	for at := range f.Of {
		if !hasChunk(w.parts[i], at) {
			return "", kept
		}
		all += w.parts[i].chunks[at]
	}
	w.remove(i)
	return all, whole
}

func hasChunk(p begun, at uint32) bool {
	_, ok := p.chunks[at]
	return ok
}

func (w *watched) remove(i int) {
	w.parts = append(append([]begun(nil), w.parts[:i]...), w.parts[i+1:]...)
}

// put lets a chunk come, in memory that has room behind its end, and tells what was made of it.
func (w *watched) put(f api.Frame) ([]byte, uint8) {
	w.t.Helper()
	w.called("Put(%v, %d of %d, size %d, %.20q)", f.ID, f.At, f.Of, f.Size, f.Data)
	w.ids[f.ID] = true
	room := append(append(make([]byte, 0, len(f.Data)+3), f.Data...), "end"...)
	before := bytes.Clone(room)
	f.Data = room[:len(f.Data)]
	want, wantWhat := w.came(f)
	w.made[wantWhat]++
	p, what := w.g.Put(f)
	if string(p) != want || what != wantWhat {
		w.fail("Put = %.99q, %d, want %.99q, %d", p, what, want, wantWhat)
	}
	if !bytes.Equal(room, before) {
		w.fail("what is handed in is changed: %.99q, want %.99q", room, before)
	}
	spoil(room)
	told := bytes.Clone(p)
	spoil(p)
	w.look()
	return told, what
}

// spoil writes into bytes, and into the room behind their end.
func spoil(b []byte) {
	b = b[:cap(b)]
	for i := range b {
		b[i] = 0xee
	}
}

func (w *watched) want(x api.ID) {
	w.t.Helper()
	w.called("Want(%v)", x)
	w.ids[x] = true
	w.wanted = []api.ID{x}
	w.g.Want(x)
	w.look()
}

// drop lets parts go, of ids in memory that has room behind its end.
func (w *watched) drop(l ...api.ID) {
	w.t.Helper()
	w.called("Drop(%v)", l)
	want := 0
	for _, x := range l {
		w.ids[x] = true
		if i := w.place(x); i >= 0 {
			w.remove(i)
			want++
		}
	}
	room := append(append(make([]api.ID, 0, len(l)+3), l...), id(1), id(2), id(3))
	before := slices.Clone(room)
	got := w.g.Drop(room[:len(l)]...)
	if got != want {
		w.fail("Drop = %d, want %d", got, want)
	}
	if !slices.Equal(room, before) {
		w.fail("what is handed in is changed: %v, want %v", room, before)
	}
	for i := range room {
		room[i] = id(77)
	}
	w.look()
}

// look looks at all that a gatherer tells.
func (w *watched) look() {
	w.t.Helper()
	w.wantNumber("Used", w.g.Used(), w.used())
	if w.used() > w.room {
		w.fail("Used is %d, of a room of %d", w.used(), w.room)
	}
	w.lookAtIDs()
	for x := range w.ids {
		w.lookAtFirst(x)
	}
	for _, x := range []api.ID{{}, id(0), id(1), id(1 << 62), {From: 64, Seq: 1}, {From: 255, Seq: math.MaxUint64}} {
		w.lookAtFirst(x)
	}
	for what := range 256 {
		if what < 9 || what > 250 || what%32 < 6 {
			w.wantNumber(fmt.Sprintf("Count(%d)", what), w.g.Count(uint8(what)), w.made[what])
		}
	}
}

func (w *watched) wantNumber(name string, got, want int) {
	w.t.Helper()
	if got != want {
		w.fail("%s = %d, want %d", name, got, want)
	}
}

func (w *watched) lookAtIDs() {
	w.t.Helper()
	var want []api.ID
	for _, p := range w.parts {
		want = append(want, p.id)
	}
	for range 2 {
		got := w.g.IDs()
		if !slices.Equal(got, want) {
			w.fail("IDs = %v, want %v", got, want)
		}
		got = got[:cap(got)]
		for i := range got {
			got[i] = id(55)
		}
	}
}

func (w *watched) lookAtFirst(x api.ID) {
	w.t.Helper()
	want := 0
	if i := w.place(x); i >= 0 {
		for hasChunk(w.parts[i], uint32(want)) {
			want++
		}
	}
	w.wantNumber(fmt.Sprintf("First(%v)", x), w.g.First(x), want)
}

// wantPut holds what is made of a chunk against what is written out.
func wantPut(t *testing.T, g *gather.Gather, f api.Frame, what uint8, want string) {
	t.Helper()
	if p, got := g.Put(f); got != what || string(p) != want {
		t.Errorf("Put(%v, %d of %d, size %d, %.20q) = %.99q, %d, want %.99q, %d", f.ID, f.At, f.Of, f.Size, f.Data, p, got, want, what)
	}
}

// wantParts holds what is used, and the ids of all parts, against what is written out.
func wantParts(t *testing.T, g *gather.Gather, used int, want ...api.ID) {
	t.Helper()
	if n, l := g.Used(), g.IDs(); n != used || !slices.Equal(l, want) {
		t.Errorf("Used, IDs = %d, %v, want %d, %v", n, l, used, want)
	}
}

// wantCounts holds how many chunks and parts there were, by what was made of them, against what is written out.
func wantCounts(t *testing.T, g *gather.Gather, want ...int) {
	t.Helper()
	for i, n := range want {
		if got := g.Count(uint8(i + 1)); got != n {
			t.Errorf("Count(%d) = %d, want %d", i+1, got, n)
		}
	}
}

func wantFirst(t *testing.T, g *gather.Gather, x api.ID, want int) {
	t.Helper()
	if got := g.First(x); got != want {
		t.Errorf("First(%v) = %d, want %d", x, got, want)
	}
}

func wantDrop(t *testing.T, g *gather.Gather, want int, l ...api.ID) {
	t.Helper()
	if got := g.Drop(l...); got != want {
		t.Errorf("Drop(%v) = %d, want %d", l, got, want)
	}
}
