package store_test

import (
	"bytes"
	"fmt"
	"math"
	"slices"
	"strings"
	"testing"

	"unison/api"
	"unison/store"
)

const (
	least    = math.MinInt
	greatest = math.MaxInt
	last     = 1 << 62 // the greatest number of a message
	over     = math.MaxUint64
)

func id(from uint8, seq uint64) api.ID { return api.ID{From: from, Seq: seq} }

// odd are ids that no store has.
var odd = []api.ID{
	{}, id(1, 0), id(63, 0), id(64, 0), id(255, 0), id(64, 1), id(65, 2), id(128, 1), id(255, 1), id(255, last), id(64, last),
	id(0, last+1), id(1, last+1), id(63, last+1), id(0, 1<<63-1), id(0, 1<<63), id(0, 1<<63+1), id(1, over-1), id(1, over), id(255, over),
}

// kept is a payload that is there.
type kept struct {
	id api.ID
	p  string
}

// watched is a store, and beside it what the chapter says of it. Each call is held against that, and the store is looked
// at behind it. What is handed in, and what is answered, is written into at once.
type watched struct {
	t       *testing.T
	s       *store.Store
	n, room int
	there   []kept
	floors  [64]uint64
	held    []uint64 // as it was told last
	ids     []api.ID // all that were told, each once
	calls   []string
}

func watch(t *testing.T, n, room int) *watched {
	t.Helper()
	w := &watched{t: t, s: store.New(n, room), n: n, room: room}
	if n < 1 {
		w.n = 1
	}
	if n > 64 {
		w.n = 64
	}
	if room < 0 {
		w.room = 0
	}
	w.called("New(%d, %d)", n, room)
	w.look()
	return w
}

func (w *watched) called(format string, l ...any) {
	w.calls = append(w.calls, fmt.Sprintf(format, l...))
}

func (w *watched) fail(format string, l ...any) {
	w.t.Helper()
	row := strings.Join(w.calls[max(0, len(w.calls)-20):], ", ")
	w.t.Fatalf("%.3000s: %s", row, fmt.Sprintf(format, l...))
}

func (w *watched) wantNumber(name string, got, want int) {
	w.t.Helper()
	if got != want {
		w.fail("%s = %d, want %d", name, got, want)
	}
}

// find is the payload of an id, and whether it is there.
func (w *watched) find(x api.ID) (string, bool) {
	for _, k := range w.there {
		if k.id.From == x.From && k.id.Seq == x.Seq {
			return k.p, true
		}
	}
	return "", false
}

func (w *watched) used() int {
	n := 0
	for _, k := range w.there {
		n += len(k.p)
	}
	return n
}

// fits tells whether a payload may be put in.
func (w *watched) fits(x api.ID, size int) bool {
	if int(x.From) >= w.n || x.Seq == 0 || x.Seq > last || x.Seq <= w.floors[x.From] {
		return false
	}
	_, ok := w.find(x)
	return !ok && size <= w.room-w.used()
}

// upto is what is held of a sender: from its floor on the numbers that are there are gone through in order.
func (w *watched) upto(from int) uint64 {
	var l []uint64
	for _, k := range w.there {
		if int(k.id.From) == from {
			l = append(l, k.id.Seq)
		}
	}
	slices.Sort(l)
	n := w.floors[from]
	for _, seq := range l {
		if seq == n+1 {
			n = seq
		}
	}
	return n
}

// put puts a payload in, in memory that has room behind its end.
func (w *watched) put(x api.ID, p string) bool {
	w.t.Helper()
	w.called("Put(%v, %.20q)", x, p)
	w.tell(x)
	room := append(append(make([]byte, 0, len(p)+3), p...), "end"...)
	before := bytes.Clone(room)
	want := w.fits(x, len(p))
	if want {
		w.there = append(w.there, kept{x, p})
	}
	if got := w.s.Put(x, room[:len(p)]); got != want {
		w.fail("Put = %t, want %t", got, want)
	}
	if !bytes.Equal(room, before) {
		w.fail("what is handed in is changed: %.99q, want %.99q", room, before)
	}
	for i := range room {
		room[i] = 0xee
	}
	w.look()
	return want
}

func (w *watched) tell(x api.ID) {
	if !slices.Contains(w.ids, x) {
		w.ids = append(w.ids, x)
	}
}

// drop lets floors rise, by vectors in memory that has room behind their ends.
func (w *watched) drop(l ...[]uint64) int {
	w.t.Helper()
	w.called("Drop(%d)", l)
	want := w.dropped(l)
	full, in := make([][]uint64, len(l)), make([][]uint64, len(l)+1)
	for i, v := range l {
		full[i] = roomy(v)
		in[i] = full[i][:len(v)]
	}
	w.wantNumber("Drop", w.s.Drop(in[:len(l)]...), want)
	for i, v := range l {
		if !slices.Equal(full[i], roomy(v)) || len(in[i]) != len(v) {
			w.fail("what is handed in is changed: %d, want %d", full[i], roomy(v))
		}
		for j := range full[i] {
			full[i][j] = over
		}
	}
	if in[len(l)] != nil {
		w.fail("the room behind the end of what is handed in is changed: %d", in)
	}
	w.look()
	return want
}

// roomy is a vector, and some numbers behind it.
func roomy(v []uint64) []uint64 { return append(slices.Clone(v), 1<<40, 1<<40) }

// dropped is how many payloads vectors let go.
func (w *watched) dropped(l [][]uint64) int {
	for _, v := range l {
		for i := range min(len(v), w.n) {
			w.floors[i] = max(w.floors[i], min(v[i], last))
		}
	}
	var left []kept
	for _, k := range w.there {
		if k.id.Seq > w.floors[k.id.From] {
			left = append(left, k)
		}
	}
	gone := len(w.there) - len(left)
	w.there = left
	return gone
}

// look looks at all that a store tells.
func (w *watched) look() {
	w.t.Helper()
	w.lookAtVectors()
	w.wantNumber("Used", w.s.Used(), w.used())
	if w.used() > w.room {
		w.fail("Used is %d, of a room of %d", w.used(), w.room)
	}
	w.wantNumber("Len", w.s.Len(), len(w.there))
	for _, x := range w.ids {
		w.lookAt(x)
	}
	for _, x := range odd {
		w.lookAt(x)
	}
	w.lookAtAll()
}

func (w *watched) lookAtVectors() {
	w.t.Helper()
	held := make([]uint64, w.n)
	for i := range held {
		held[i] = w.upto(i)
		if w.held != nil && held[i] < w.held[i] {
			w.fail("what is held of %d falls from %d to %d", i, w.held[i], held[i])
		}
	}
	w.held = held
	for range 2 {
		w.wantNumbers("Held", w.s.Held(), held)
		w.wantNumbers("Floor", w.s.Floor(), w.floors[:w.n])
	}
}

// wantNumbers holds an answer against what is wanted, and writes into it.
func (w *watched) wantNumbers(name string, got, want []uint64) {
	w.t.Helper()
	if !slices.Equal(got, want) {
		w.fail("%s = %d, want %d", name, got, want)
	}
	got = got[:cap(got)]
	for i := range got {
		got[i] = 77
	}
}

// lookAt looks at one id, its payload being written into.
func (w *watched) lookAt(x api.ID) {
	w.t.Helper()
	want, ok := w.find(x)
	for range 2 {
		got, had := w.s.Get(x)
		if string(got) != want || had != ok {
			w.fail("Get(%v) = %.99q, %t, want %.99q, %t", x, got, had, want, ok)
		}
		got = got[:cap(got)]
		for i := range got {
			got[i] = 0xdd
		}
	}
	if got := w.s.Has(x); got != ok {
		w.fail("Has(%v) = %t, want %t", x, got, ok)
	}
}

// lookAtAll asks for all that is there at once, and for one more.
func (w *watched) lookAtAll() {
	w.t.Helper()
	var all []api.ID
	for _, k := range w.there {
		all = append(all, k.id)
	}
	before := slices.Clone(all)
	if !w.s.Has() || !w.s.Has(all...) || !w.s.Has(append(all, all...)...) {
		w.fail("Has of all that are there is false: %v", all)
	}
	for _, x := range append(slices.Clone(w.ids), odd...) {
		if _, ok := w.find(x); ok {
			continue
		}
		for _, i := range []int{0, len(all) / 2, len(all)} {
			if l := slices.Insert(slices.Clone(all), i, x); w.s.Has(l...) {
				w.fail("Has(%v) is true, without %v", l, x)
			}
		}
	}
	if !slices.Equal(all, before) {
		w.fail("what is handed in is changed: %v, want %v", all, before)
	}
}

// wantPut holds whether a payload is put in against what is written out.
func wantPut(t *testing.T, s *store.Store, x api.ID, p string, want bool) {
	t.Helper()
	if got := s.Put(x, []byte(p)); got != want {
		t.Errorf("Put(%v, %.99q) = %t, want %t", x, p, got, want)
	}
}

func wantGet(t *testing.T, s *store.Store, x api.ID, want string, ok bool) {
	t.Helper()
	if p, got := s.Get(x); got != ok || string(p) != want {
		t.Errorf("Get(%v) = %.99q, %t, want %.99q, %t", x, p, got, want, ok)
	}
}

func wantHas(t *testing.T, s *store.Store, want bool, l ...api.ID) {
	t.Helper()
	if got := s.Has(l...); got != want {
		t.Errorf("Has(%v) = %t, want %t", l, got, want)
	}
}

func wantDrop(t *testing.T, s *store.Store, want int, l ...[]uint64) {
	t.Helper()
	if got := s.Drop(l...); got != want {
		t.Errorf("Drop(%v) = %d, want %d", l, got, want)
	}
}

// wantStands holds what is held, the floors, how many bytes are used and how many payloads there are against what is written out.
func wantStands(t *testing.T, s *store.Store, held, floors []uint64, used, n int) {
	t.Helper()
	if h, f := s.Held(), s.Floor(); !slices.Equal(h, held) || !slices.Equal(f, floors) {
		t.Errorf("Held, Floor = %d, %d, want %d, %d", h, f, held, floors)
	}
	if u, l := s.Used(), s.Len(); u != used || l != n {
		t.Errorf("Used, Len = %d, %d, want %d, %d", u, l, used, n)
	}
}
