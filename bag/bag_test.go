package bag_test

import (
	"bytes"
	"fmt"
	"math"
	"math/big"
	"math/bits"
	"math/rand"
	"slices"
	"strings"
	"testing"

	"unison/api"
	"unison/bag"
	"unison/crc"
)

const (
	lowest  = uint32(1)
	highest = uint32(1 << 31)
	all     = uint32(math.MaxUint32)
)

// thing is what the chapter says of a thing in a bag, as text: nobody can write into it.
type thing struct {
	body   string
	turned bool
}

// toldNumber is a thing as one number, in which the bit j counts 2 to the j.
func toldNumber(body string) *big.Int {
	b := []byte(body)
	slices.Reverse(b)
	return new(big.Int).SetBytes(b)
}

// toldTurn goes by the thing's number as a whole, not by its bytes.
func toldTurn(x thing, at int, pattern uint32) (thing, bool) {
	size := big.NewInt(int64(len(x.body)))
	last := new(big.Int).Sub(size.Mul(size, big.NewInt(8)), big.NewInt(32))
	if x.turned || pattern == 0 || at < 0 || big.NewInt(int64(at)).Cmp(last) > 0 {
		return x, false
	}
	n := toldNumber(x.body)
	n.Xor(n, new(big.Int).Lsh(big.NewInt(int64(pattern)), uint(at)))
	b := n.FillBytes(make([]byte, len(x.body)))
	slices.Reverse(b)
	return thing{body: string(b), turned: true}, true
}

// watched is a bag, and beside it what the chapter says that it has. Each call is held
// against that, and the bag is looked at as a whole behind it. What is handed in, and
// what is answered, is written into at once.
type watched struct {
	t      *testing.T
	bag    *bag.Bag
	room   int
	things []thing
	lost   int
	calls  []string
}

func watch(t *testing.T, room int) *watched {
	t.Helper()
	w := &watched{t: t, bag: bag.New(room), room: min(room, 4096)}
	if room < 1 {
		w.room = 1
	}
	w.called("New(%d)", room)
	w.look()
	return w
}

func (w *watched) called(format string, l ...any) {
	w.calls = append(w.calls, fmt.Sprintf(format, l...))
}

func (w *watched) fail(format string, l ...any) {
	w.t.Helper()
	row := strings.Join(w.calls[max(0, len(w.calls)-20):], ", ")
	w.t.Fatalf("%s: %s", row, fmt.Sprintf(format, l...))
}

// at is the thing at a place, as it is told.
func (w *watched) at(i int) (thing, bool) {
	if i < 0 || i >= len(w.things) {
		return thing{}, false
	}
	return w.things[i], true
}

func (w *watched) wantThing(name string, i int, got []byte, ok bool) {
	w.t.Helper()
	want, told := w.at(i)
	if ok != told || string(got) != want.body {
		w.fail("%s(%d) = %x, %v, want %x, %v", name, i, got, ok, want.body, told)
	}
	spoil(got)
}

// look looks at all that a bag tells.
func (w *watched) look() {
	w.t.Helper()
	if got := w.bag.Len(); got != len(w.things) {
		w.fail("Len = %d, want %d", got, len(w.things))
	}
	if got := w.bag.Lost(); got != w.lost {
		w.fail("Lost = %d, want %d", got, w.lost)
	}
	for i := -1; i <= len(w.things); i++ {
		got, ok := w.bag.Look(i)
		w.wantThing("Look", i, got, ok)
	}
}

func (w *watched) put(l ...string) {
	w.t.Helper()
	w.called("Put(%q)", l)
	handed := roomy(l)
	got, want := w.bag.Put(handed...), 0
	for i, body := range l {
		if string(handed[i]) != body || !isSpare(handed[i]) {
			w.fail("what is handed in is changed: %x", handed[i])
		}
		if len(w.things) == w.room {
			w.lost++
			continue
		}
		w.things = append(w.things, thing{body: body})
		want++
	}
	for i := range handed {
		spoil(handed[i])
		handed[i] = []byte("another one")
	}
	if got != want {
		w.fail("%d, want %d", got, want)
	}
	w.look()
}

func (w *watched) take(i int) {
	w.t.Helper()
	w.called("Take(%d)", i)
	got, ok := w.bag.Take(i)
	w.wantThing("Take", i, got, ok)
	var left []thing
	for j, x := range w.things {
		if j != i {
			left = append(left, x)
		}
	}
	w.things = left
	w.look()
}

func (w *watched) twice(i int) {
	w.t.Helper()
	w.called("Twice(%d)", i)
	x, want := w.at(i)
	want = want && len(w.things) < w.room
	if want {
		w.things = append(w.things, x)
	}
	if got := w.bag.Twice(i); got != want {
		w.fail("%v, want %v", got, want)
	}
	w.look()
}

func (w *watched) turn(i, at int, pattern uint32) {
	w.t.Helper()
	w.called("Turn(%d, %d, %#x)", i, at, pattern)
	x, want := w.at(i)
	if want {
		w.things[i], want = toldTurn(x, at, pattern)
	}
	if got := w.bag.Turn(i, at, pattern); got != want {
		w.fail("%v, want %v", got, want)
	}
	w.look()
}

// turnAll shows which things are turned: it is to be seen in no other way.
func (w *watched) turnAll() {
	w.t.Helper()
	for i := range len(w.things) {
		w.turn(i, 0, all)
	}
}

const spare = 0xee

// roomy has each text as bytes with room behind their end.
func roomy(l []string) [][]byte {
	handed := make([][]byte, len(l), len(l)+3)
	for i, body := range l {
		handed[i] = append(append(make([]byte, 0, len(body)+5), body...), spare, spare, spare)[:len(body)]
	}
	return handed
}

func isSpare(b []byte) bool {
	return bytes.Equal(b[len(b):len(b)+3], []byte{spare, spare, spare})
}

// spoil writes into bytes, and into the room behind them.
func spoil(b []byte) {
	b = b[:cap(b)]
	for i := range b {
		b[i] ^= 0x5a
	}
}

func wantLook(t *testing.T, b *bag.Bag, i int, want string) {
	t.Helper()
	if got, ok := b.Look(i); !ok || string(got) != want {
		t.Errorf("Look(%d) = %x, %v, want %x", i, got, ok, want)
	}
}

func wantTake(t *testing.T, b *bag.Bag, i int, want string) {
	t.Helper()
	if got, ok := b.Take(i); !ok || string(got) != want {
		t.Errorf("Take(%d) = %x, %v, want %x", i, got, ok, want)
	}
}

func wantNone(t *testing.T, b *bag.Bag, i int) {
	t.Helper()
	if got, ok := b.Look(i); ok || len(got) != 0 {
		t.Errorf("Look(%d) = %x, %v", i, got, ok)
	}
	if got, ok := b.Take(i); ok || len(got) != 0 {
		t.Errorf("Take(%d) = %x, %v", i, got, ok)
	}
	if b.Twice(i) || b.Turn(i, 0, 1) {
		t.Errorf("Twice or Turn of the place %d, at which there is none", i)
	}
}

func wantSizes(t *testing.T, b *bag.Bag, size, lost int) {
	t.Helper()
	if b.Len() != size || b.Lost() != lost {
		t.Errorf("Len = %d, Lost = %d, want %d, %d", b.Len(), b.Lost(), size, lost)
	}
}

func TestExample(t *testing.T) { // P7.1
	b := bag.New(1)
	if got := b.Put([]byte("one"), []byte("two")); got != 1 {
		t.Errorf("Put = %d", got)
	}
	wantSizes(t, b, 1, 1)
	wantLook(t, b, 0, "one")
}

func TestRoom(t *testing.T) { // P7.1
	for room, want := range map[int]int{
		math.MinInt: 1, -4096: 1, -1: 1, 0: 1, 1: 1, 2: 2, 3: 3,
		4095: 4095, 4096: 4096, 4097: 4096, 8192: 4096, math.MaxInt: 4096,
	} {
		b := bag.New(room)
		wantSizes(t, b, 0, 0)
		if got := b.Put(slices.Repeat([][]byte{[]byte("abcd")}, want)...); got != want {
			t.Errorf("room %d: Put of %d = %d", room, want, got)
		}
		wantSizes(t, b, want, 0)
		if b.Put([]byte("more")) != 0 || b.Twice(0) {
			t.Errorf("room %d: one more is put in", room)
		}
		wantSizes(t, b, want, 1)
		wantLook(t, b, want-1, "abcd")
		wantNone(t, b, want)

		b = bag.New(room)
		if got := b.Put(make([][]byte, want+1)...); got != want {
			t.Errorf("room %d: Put of one more = %d", room, got)
		}
		wantSizes(t, b, want, 1)
	}
}

func TestPut(t *testing.T) { // P7.1
	for room := range 5 {
		for ahead := range 7 {
			for size := range 9 {
				w := watch(t, room)
				w.put(names(ahead)...)
				w.put(names(size)...)
				w.put()
				w.take(0)
				w.put("last", "lost")
			}
		}
	}
}

// names are so many things, each another one.
func names(size int) []string {
	var l []string
	for i := range size {
		l = append(l, fmt.Sprintf("thing %d", i))
	}
	return l
}

func TestPutOfNone(t *testing.T) { // P7.1, P0.5
	w := watch(t, 1)
	for range 2 {
		w.put()
		if got := w.bag.Put([][]byte{}...); got != 0 {
			t.Errorf("Put of no things = %d", got)
		}
		w.look()
		w.put("abcd")
	}
}

func TestThingsOfNoBytes(t *testing.T) { // P7.1, P0.5
	b := bag.New(5)
	if got := b.Put(nil, []byte{}, []byte("ab"), nil); got != 4 {
		t.Errorf("Put = %d", got)
	}
	if !b.Twice(0) || b.Twice(1) {
		t.Error("Twice of a thing of no bytes")
	}
	for i, want := range []string{"", "", "ab", "", ""} {
		wantLook(t, b, i, want)
		if b.Turn(i, 0, 1) || b.Turn(i, -32, 1) || b.Turn(i, -16, 1) {
			t.Errorf("Turn of %q", want)
		}
	}
	for _, want := range []string{"", "", "ab", "", ""} {
		wantTake(t, b, 0, want)
	}
	wantSizes(t, b, 0, 0)
	wantNone(t, b, 0)
}

func TestPlaces(t *testing.T) { // P7.1
	for _, i := range []int{math.MinInt, -5, -4, -1, 0, 1, 2, 3, 4, 5, 1 << 32, 1<<32 + 1, math.MaxInt} {
		for size := range 5 {
			for _, room := range []int{size, size + 1} {
				w := watch(t, room)
				w.put(names(size)...)
				w.twice(i)
				w.turn(i, 3, 5)
				w.take(i)
				w.turnAll()
			}
		}
	}
}

func TestTakeLeavesTheOthersInTheirOrder(t *testing.T) { // P7.1
	b := bag.New(5)
	b.Put([]byte("a"), []byte("b"), []byte("c"), []byte("d"), []byte("e"))
	wantTake(t, b, 1, "b")
	wantTake(t, b, 3, "e")
	wantTake(t, b, 0, "a")
	b.Put([]byte("f"))
	wantSizes(t, b, 3, 0)
	wantTake(t, b, 0, "c")
	wantTake(t, b, 0, "d")
	wantTake(t, b, 0, "f")
	wantNone(t, b, 0)
	wantSizes(t, b, 0, 0)
}

func TestLookLeavesAll(t *testing.T) { // P7.1
	b := bag.New(2)
	b.Put([]byte("a"), []byte("b"))
	for range 3 {
		wantLook(t, b, 0, "a")
		wantLook(t, b, 1, "b")
		wantSizes(t, b, 2, 0)
	}
}

func TestTakeMakesRoom(t *testing.T) { // P7.1
	w := watch(t, 2)
	w.put("abcd", "efgh", "lost")
	w.take(0)
	w.put("ijkl", "lost")
	w.take(1)
	w.twice(0)
	w.twice(0)
	w.take(0)
	w.take(0)
	w.take(0)
	w.put("mnop")
}

func TestTwice(t *testing.T) { // P7.1
	b := bag.New(4)
	b.Put([]byte("a"), []byte("b"))
	if !b.Twice(0) || !b.Twice(2) {
		t.Error("Twice where there is room")
	}
	for i, want := range []string{"a", "b", "a", "a"} {
		wantLook(t, b, i, want)
	}
	for i := range 4 {
		if b.Twice(i) {
			t.Errorf("Twice(%d) where there is no room", i)
		}
	}
	wantSizes(t, b, 4, 0) // what isn't put in twice isn't lost
}

func TestTurn(t *testing.T) { // P7.1, P7.2
	body := "\x00\xff\x00\xff\x5a\x00"
	for name, c := range map[string]struct {
		at      int
		pattern uint32
		want    string
	}{
		"the lowest bit":            {0, lowest, "\x01\xff\x00\xff\x5a\x00"},
		"the highest bit":           {0, highest, "\x00\xff\x00\x7f\x5a\x00"},
		"both of them":              {0, highest | lowest, "\x01\xff\x00\x7f\x5a\x00"},
		"all bits":                  {0, all, "\xff\x00\xff\x00\x5a\x00"},
		"each byte's own":           {0, 0x08040201, "\x01\xfd\x04\xf7\x5a\x00"},
		"lowest, at 1":              {1, lowest, "\x02\xff\x00\xff\x5a\x00"},
		"highest, at 1":             {1, highest, "\x00\xff\x00\xff\x5b\x00"},
		"lowest, at 7":              {7, lowest, "\x80\xff\x00\xff\x5a\x00"},
		"lowest, at 8":              {8, lowest, "\x00\xfe\x00\xff\x5a\x00"},
		"all bits, at 4":            {4, all, "\xf0\x00\xff\x00\x55\x00"},
		"all bits, at 8":            {8, all, "\x00\x00\xff\x00\xa5\x00"},
		"the last place, lowest":    {16, lowest, "\x00\xff\x01\xff\x5a\x00"},
		"the last place, highest":   {16, highest, "\x00\xff\x00\xff\x5a\x80"},
		"the last place, all":       {16, all, "\x00\xff\xff\x00\xa5\xff"},
		"the last place but 1, all": {15, all, "\x00\x7f\xff\x00\xa5\x7f"},
	} {
		b := bag.New(2)
		b.Put([]byte(body), []byte(body))
		if !b.Turn(0, c.at, c.pattern) {
			t.Errorf("%s: Turn(0, %d, %#x) = false", name, c.at, c.pattern)
		}
		wantLook(t, b, 0, c.want)
		wantLook(t, b, 1, body)
		wantTake(t, b, 0, c.want)
		wantTake(t, b, 0, body)
	}
}

func TestTurnAtItsEdges(t *testing.T) { // P7.1
	for size := range 9 {
		body := strings.Repeat("\xa5", size)
		last := 8*size - 32
		for _, at := range []int{math.MinInt, -64, -33, -32, -31, -8, -1, 0, 1, 7, 8, last - 1, last, last + 1, last + 7, last + 8, last + 31, last + 32, 1 << 32, math.MaxInt - 31, math.MaxInt} {
			for _, pattern := range []uint32{0, lowest, 1 << 15, highest, highest | lowest, all} {
				w := watch(t, 1)
				w.put(body)
				w.turn(0, at, pattern)
				w.turn(0, 0, lowest)
			}
		}
	}
}

func TestWhatCannotBeTurnedIsNotTurned(t *testing.T) { // P7.1, P0.3
	w := watch(t, 1)
	w.put("abcdefgh")
	w.turn(0, 0, 0)
	w.turn(0, -1, lowest)
	w.turn(0, 33, lowest)
	w.turn(-1, 0, lowest)
	w.turn(1, 0, lowest)
	w.turn(0, 32, highest)
	if got, ok := w.bag.Take(0); !ok || string(got) != "abcdefg\xe8" {
		t.Errorf("Take(0) = %x, %v", got, ok)
	}
}

func TestTurnedOnce(t *testing.T) { // P7.1, P7.2
	b := bag.New(3)
	b.Put([]byte("abcdefgh"))
	if !b.Twice(0) || !b.Turn(0, 0, 0x20) || !b.Twice(0) {
		t.Error("Twice, Turn, Twice")
	}
	for _, i := range []int{0, 2} {
		for at := range 33 {
			if b.Turn(i, at, 0x20) || b.Turn(i, at, all) {
				t.Errorf("Turn(%d, %d) of what is turned", i, at)
			}
		}
		wantLook(t, b, i, "Abcdefgh")
	}
	if !b.Turn(1, 8, 0x20) || b.Turn(1, 8, 0x20) {
		t.Error("the twin of what was turned later is turned once")
	}
	for _, want := range []string{"Abcdefgh", "aBcdefgh", "Abcdefgh"} {
		wantTake(t, b, 0, want)
	}
}

func TestTurnedStaysTurnedAtItsNewPlace(t *testing.T) { // P7.1
	w := watch(t, 6)
	w.put("abcd", "efgh", "ijkl")
	w.turn(1, 0, lowest)
	w.take(0)
	w.turn(0, 0, highest)
	w.turn(1, 0, highest)
	w.take(0)
	w.turn(0, 0, 2)
	w.put("mnop")
	w.turn(1, 0, 2)
	w.turn(1, 0, 2)
}

func TestPutAgainMayBeTurnedAgain(t *testing.T) { // P7.1: what comes out is turned no more
	b := bag.New(1)
	b.Put([]byte("abcd"))
	b.Turn(0, 0, lowest)
	x, _ := b.Take(0)
	if b.Put(x) != 1 || !b.Turn(0, 0, lowest) {
		t.Error("Put and Turn of what was turned, and taken")
	}
	wantTake(t, b, 0, "abcd")
}

// smallCalls are calls of which rows are made.
func smallCalls() []func(w *watched) {
	calls := []func(w *watched){
		func(w *watched) { w.put("abcd") },
		func(w *watched) { w.put("efghi", "x") },
	}
	for i := range 3 {
		calls = append(calls,
			func(w *watched) { w.take(i) },
			func(w *watched) { w.twice(i) },
			func(w *watched) { w.turn(i, i, highest|lowest) },
		)
	}
	return calls
}

func TestAllSmallRows(t *testing.T) { // P7.1, P7.2
	const long = 4
	calls := smallCalls()
	rows := 1
	for range long {
		rows *= len(calls)
	}
	for room := 1; room <= 3; room++ {
		for row := range rows {
			w := watch(t, room)
			for range long {
				calls[row%len(calls)](w)
				row /= len(calls)
			}
			w.turnAll()
		}
	}
}

func pick[T any](dice *rand.Rand, l ...T) T { return l[dice.Intn(len(l))] }

func someBody(dice *rand.Rand) string {
	b := make([]byte, pick(dice, 0, 1, 3, 4, 4, 5, 8, 8, 20, 65))
	dice.Read(b)
	return string(b)
}

func somePattern(dice *rand.Rand) uint32 {
	return pick(dice, 0, lowest, highest, all, 1<<dice.Intn(32), dice.Uint32())
}

// someCall calls a bag in any way; most places and bits are such that may be.
func someCall(dice *rand.Rand, w *watched) {
	w.t.Helper()
	i := dice.Intn(len(w.things)+3) - 1
	switch dice.Intn(6) {
	case 0, 1:
		var l []string
		for range dice.Intn(4) {
			l = append(l, someBody(dice))
		}
		w.put(l...)
	case 2:
		w.take(i)
	case 3:
		w.twice(i)
	default:
		x, _ := w.at(i)
		last := 8*len(x.body) - 32
		w.turn(i, pick(dice, -1, 0, dice.Intn(max(1, last+1)), last, last+1), somePattern(dice))
	}
}

func TestAnyRows(t *testing.T) { // P7.1, P7.2
	dice := rand.New(rand.NewSource(7))
	for range 400 {
		w := watch(t, dice.Intn(12)-1)
		for range 60 {
			someCall(dice, w)
		}
		w.turnAll()
	}
}

func TestAGreatBag(t *testing.T) { // P7.1
	w := watch(t, math.MaxInt)
	w.put(names(4000)...)
	w.turn(3999, 0, lowest)
	w.put(names(90)...)
	for range 7 {
		w.twice(3999)
	}
	w.take(17)
	w.turn(4094, 0, highest)
	w.put(names(100)...)
	w.turn(4095, 0, highest)
	w.take(4095)
	w.take(4095)
}

// parted tells within how many bits in a row two things of one size are different.
func parted(a, b string) int {
	if len(a) != len(b) {
		return math.MaxInt
	}
	n := toldNumber(a)
	n.Xor(n, toldNumber(b))
	return n.BitLen() - int(n.TrailingZeroBits())
}

func TestNothingElseComesOut(t *testing.T) { // P7.2: told by what was put in alone
	dice := rand.New(rand.NewSource(72))
	for range 60 {
		b := bag.New(1 + dice.Intn(20))
		var in []string
		mayCome := func(name string, got []byte, ok bool) {
			if ok && !slices.ContainsFunc(in, func(x string) bool { return parted(x, string(got)) <= 32 }) {
				t.Fatalf("%s: %x wasn't put in", name, got)
			}
		}
		for range 300 {
			i := dice.Intn(b.Len() + 1)
			switch dice.Intn(7) {
			case 0, 1:
				x := make([]byte, 40)
				dice.Read(x)
				if b.Put(x) == 1 {
					in = append(in, string(x))
				}
				spoil(x)
			case 2:
				x, ok := b.Take(i)
				mayCome("Take", x, ok)
			case 3:
				b.Twice(i)
			default:
				b.Turn(i, dice.Intn(8*40), dice.Uint32())
				x, ok := b.Look(i)
				mayCome("Look", x, ok)
				spoil(x)
			}
		}
		for b.Len() > 0 {
			x, ok := b.Take(0)
			mayCome("Take", x, ok)
		}
	}
}

func TestTurnedMarksDoNotFit(t *testing.T) { // P7.2: bits count as they do for a sum
	marked := crc.Mark([]byte("a thing that is marked"))
	last := 8*len(marked) - 32
	dice := rand.New(rand.NewSource(73))
	for at := range last + 1 {
		for _, pattern := range []uint32{lowest, highest, highest | lowest, all, 1 + dice.Uint32()/2} {
			b := bag.New(2)
			b.Put(marked)
			b.Twice(0)
			b.Turn(0, at, pattern)
			x, _ := b.Take(0)
			if _, err := crc.Fits(x); err != api.ErrSum {
				t.Fatalf("Turn(0, %d, %#x): %v", at, pattern, err)
			}
			if want := bits.OnesCount32(pattern); onesApart(marked, x) != want {
				t.Fatalf("Turn(0, %d, %#x): %d bits are others", at, pattern, onesApart(marked, x))
			}
			x, _ = b.Take(0)
			if _, err := crc.Fits(x); err != api.OK {
				t.Fatalf("the twin of a turned one: %v", err)
			}
		}
	}
}

func onesApart(a, b []byte) int {
	ones := 0
	for i := range a {
		ones += bits.OnesCount8(a[i] ^ b[i])
	}
	return ones
}

func TestANilBag(t *testing.T) { // P7.1, P0.1
	var b *bag.Bag
	for range 2 {
		if b.Put() != 0 || b.Put(nil) != 0 || b.Put([]byte("abcd"), []byte("ef")) != 0 {
			t.Error("a nil bag takes things")
		}
		wantSizes(t, b, 0, 0)
		for _, i := range []int{math.MinInt, -1, 0, 1, math.MaxInt} {
			wantNone(t, b, i)
			if b.Turn(i, math.MaxInt, all) || b.Turn(i, math.MinInt, 0) {
				t.Errorf("Turn(%d) of a nil bag", i)
			}
		}
	}
}

func TestAnEmptyBag(t *testing.T) { // P7.1
	b := bag.New(4)
	for _, i := range []int{math.MinInt, -1, 0, 1, math.MaxInt} {
		wantNone(t, b, i)
	}
	wantSizes(t, b, 0, 0)
}

func TestBytesWrittenIntoBehindPut(t *testing.T) { // P0.4
	a, c := []byte("abcdefgh"), []byte("ijkl")
	l := [][]byte{a, c, a[2:6]}
	b := bag.New(9)
	b.Put(l...)
	b.Put(a)
	spoil(a)
	spoil(c)
	l[0], l[1] = nil, []byte("none")
	for i, want := range []string{"abcdefgh", "ijkl", "cdef", "abcdefgh"} {
		wantLook(t, b, i, want)
		wantLook(t, b, i, want)
	}
}

func TestWhatIsHandedInIsLeftAsItWas(t *testing.T) { // P0.4
	whole := []byte("abcdefghij")
	l := [][]byte{whole[:4], whole[2:8], nil, whole}
	b := bag.New(9)
	b.Put(l[:3]...)
	for i := range 3 {
		b.Turn(i, 0, all)
		b.Twice(i)
	}
	b.Take(1)
	b.Put([]byte("another"))
	if string(whole) != "abcdefghij" || len(l[0]) != 4 || string(l[1]) != "cdefgh" || l[2] != nil || len(l[3]) != 10 {
		t.Errorf("what was handed in is changed: %q", l)
	}
}

func TestAnswersWrittenIntoBehindTakeAndLook(t *testing.T) { // P0.4
	b := bag.New(9)
	b.Put([]byte("abcd"), []byte("efgh"))
	b.Twice(0)
	b.Twice(2)
	b.Turn(3, 0, lowest)
	first, _ := b.Look(0)
	second, _ := b.Look(0)
	spoil(first)
	if string(second) != "abcd" {
		t.Errorf("two answers share memory: %x", second)
	}
	wantLook(t, b, 0, "abcd")
	taken, _ := b.Take(0)
	spoil(taken)
	if string(second) != "abcd" {
		t.Errorf("answers of Look and Take share memory: %x", second)
	}
	for i, want := range []string{"efgh", "abcd", "`bcd"} {
		wantLook(t, b, i, want)
	}
}

func TestAnswersStayWhenTheBagGoesOn(t *testing.T) { // P0.4
	b := bag.New(4)
	b.Put([]byte("abcd"), []byte("efgh"))
	looked, _ := b.Look(0)
	b.Twice(0)
	b.Turn(0, 0, all)
	taken, _ := b.Take(2)
	b.Put([]byte("ijkl"), []byte("mnop"))
	b.Turn(1, 0, all)
	b.Turn(2, 0, all)
	if string(looked) != "abcd" || string(taken) != "abcd" {
		t.Errorf("answers are changed: %x, %x", looked, taken)
	}
}

func TestATwinHasItsOwnMemory(t *testing.T) { // P0.4, P7.2
	for first := range 2 {
		w := watch(t, 3)
		w.put("abcdefgh")
		w.twice(0)
		w.turn(first, 5, all)
		w.twice(first)
		w.turn(1-first, 9, all)
		w.turnAll()
	}
}

func TestBagsShareNothing(t *testing.T) { // P0.4, P0.6
	body := []byte("abcd")
	a, b := bag.New(2), bag.New(1)
	a.Put(body)
	b.Put(body, body)
	a.Turn(0, 0, all)
	a.Twice(0)
	wantSizes(t, a, 2, 0)
	wantSizes(t, b, 1, 1)
	wantLook(t, b, 0, "abcd")
	b.Take(0)
	wantSizes(t, a, 2, 0)
	wantSizes(t, bag.New(1), 0, 0)
}

func TestAnswersHangOnTheRowOfCallsAlone(t *testing.T) { // P0.6
	var want []string
	for range 3 {
		dice := rand.New(rand.NewSource(76))
		w := watch(t, 7)
		for range 300 {
			someCall(dice, w)
		}
		var got []string
		for w.bag.Len() > 0 {
			x, _ := w.bag.Take(0)
			got = append(got, string(x))
		}
		if want != nil && !slices.Equal(got, want) {
			t.Errorf("one row of calls, two bags: %q, %q", got, want)
		}
		want = got
	}
	if len(want) == 0 {
		t.Error("nothing was left to be held against")
	}
}

// FuzzRow reads calls of bytes: which one, a place, and what else it takes.
func FuzzRow(f *testing.F) { // P7.1, P7.2
	f.Add(3, []byte{0, 4, 0, 8, 2, 0, 0, 0, 3, 0, 0, 1, 1, 0, 0, 0})
	f.Add(0, []byte{0, 4, 0, 8, 3, 0, 255, 255, 3, 0, 0, 0, 3, 0, 0, 128})
	f.Add(4097, []byte{0, 200, 3, 4, 2, 1, 0, 0, 3, 4, 0, 31, 1, 1, 0, 0})
	f.Fuzz(func(t *testing.T, room int, b []byte) {
		w := watch(t, room)
		for ; len(b) >= 4; b = b[4:] {
			i := int(int8(b[1]))
			switch b[0] % 4 {
			case 0:
				w.put(strings.Repeat(string(b[2:3]), int(b[1])), string(b[4:min(len(b), 4+int(b[3]))]))
			case 1:
				w.take(i)
			case 2:
				w.twice(i)
			case 3:
				w.turn(i, int(int8(b[2])), bits.RotateLeft32(uint32(b[3]), int(b[3]%32)))
			}
		}
		w.turnAll()
	})
}
