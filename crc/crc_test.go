package crc_test

import (
	"bytes"
	"hash/crc32"
	"math/rand"
	"testing"

	"unison/api"
	"unison/crc"
)

// told is the chapter's sum, bit by bit, to hold the package's against.
func told(b []byte) uint32 {
	register := ^uint32(0)
	for _, x := range b {
		register ^= uint32(x)
		for range 8 {
			set := register%2 == 1
			register /= 2
			if set {
				register ^= 0xedb88320
			}
		}
	}
	return ^register
}

// toldMark is b with its sum's bytes behind it.
func toldMark(b []byte) []byte {
	s := told(b)
	return append(bytes.Clone(b), byte(s), byte(s>>8), byte(s>>16), byte(s>>24))
}

// spoil overwrites a list and the room behind its end.
func spoil(b []byte) {
	b = b[:cap(b)]
	for i := range b {
		b[i] ^= 0xa5
	}
}

// rolled is so many bytes, the same ones for the same dice.
func rolled(dice *rand.Rand, size int) []byte {
	b := make([]byte, size)
	dice.Read(b)
	return b
}

// someBytes are rows of many lengths, plain ones and rolled ones.
func someBytes() [][]byte {
	dice := rand.New(rand.NewSource(2))
	l := [][]byte{nil, {}, []byte("123456789")}
	for _, size := range []int{1, 2, 3, 4, 5, 7, 8, 9, 31, 255, 256, 1000, 65536} {
		l = append(l, make([]byte, size), bytes.Repeat([]byte{255}, size), rolled(dice, size))
	}
	return l
}

func TestSumOfKnownTexts(t *testing.T) { // P2.1
	for _, c := range []struct {
		text string
		want uint32
	}{
		{"", 0},
		{"\x00", 0xd202ef8d},
		{"\xff", 0xff000000},
		{"\x00\x00\x00\x00", 0x2144df1c},
		{"\xff\xff\xff\xff", 0xffffffff},
		{"a", 0xe8b7be43},
		{"abc", 0x352441c2},
		{"123456789", 0xcbf43926},
		{"The quick brown fox jumps over the lazy dog", 0x414fa339},
	} {
		if got := crc.Sum([]byte(c.text)); got != c.want {
			t.Errorf("Sum(%q) = %#x, want %#x", c.text, got, c.want)
		}
	}
}

func TestSumOfNothing(t *testing.T) { // P2.1, P0.5
	for _, l := range [][][]byte{nil, {}, {nil}, {{}}, {nil, {}, nil}, make([][]byte, 1000)} {
		if got := crc.Sum(l...); got != 0 {
			t.Errorf("Sum of %d empty rows = %#x, want 0", len(l), got)
		}
	}
}

func TestSumAsTold(t *testing.T) { // P2.1
	for _, b := range someBytes() {
		if got := crc.Sum(b); got != told(b) || got != crc32.ChecksumIEEE(b) {
			t.Errorf("Sum of %d bytes = %#x, want %#x, %#x", len(b), got, told(b), crc32.ChecksumIEEE(b))
		}
	}
	for first := range 256 {
		for second := range 256 {
			b := []byte{byte(first), byte(second)}
			if got := crc.Sum(b); got != told(b) {
				t.Fatalf("Sum(%v) = %#x, want %#x", b, got, told(b))
			}
		}
	}
}

func TestRowsAreOneBehindTheOther(t *testing.T) { // P2.1
	text := []byte("123456789")
	for i := range len(text) + 1 {
		for j := i; j <= len(text); j++ {
			l := [][]byte{nil, text[:i], {}, text[i:j], text[j:], nil}
			if got := crc.Sum(l...); got != 0xcbf43926 {
				t.Errorf("Sum of %q = %#x", l, got)
			}
			if got := crc.Mark(l...); string(got) != "123456789\x26\x39\xf4\xcb" {
				t.Errorf("Mark of %q = %q", l, got)
			}
		}
	}
	dice := rand.New(rand.NewSource(3))
	for range 500 {
		l := make([][]byte, dice.Intn(9))
		for i := range l {
			l[i] = rolled(dice, dice.Intn(40))
		}
		whole := bytes.Join(l, nil)
		if got := crc.Sum(l...); got != told(whole) {
			t.Fatalf("Sum(%v) = %#x, want %#x", l, got, told(whole))
		}
		if got := crc.Mark(l...); !bytes.Equal(got, toldMark(whole)) {
			t.Fatalf("Mark(%v) = %v, want %v", l, got, toldMark(whole))
		}
	}
}

func TestOrderOfRowsCounts(t *testing.T) { // P2.1
	a, b := []byte("1234"), []byte("56789")
	if crc.Sum(b, a) != told([]byte("567891234")) || crc.Sum(b, a) == crc.Sum(a, b) {
		t.Errorf("Sum of rows the other way round = %#x", crc.Sum(b, a))
	}
}

func TestMarkOfNothing(t *testing.T) { // P2.1, P0.5
	for _, l := range [][][]byte{nil, {}, {nil}, {{}, nil}} {
		if got := crc.Mark(l...); !bytes.Equal(got, make([]byte, 4)) {
			t.Errorf("Mark of %d empty rows = %v, want 0, 0, 0, 0", len(l), got)
		}
	}
}

func TestMarkedBytesFit(t *testing.T) { // P2.1, P2.2
	for _, b := range someBytes() {
		m := crc.Mark(b)
		if !bytes.Equal(m, toldMark(b)) {
			t.Errorf("Mark of %d bytes is wrong", len(b))
		}
		if got, err := crc.Fits(m); err != api.OK || !bytes.Equal(got, b) {
			t.Errorf("Fits of %d marked bytes: %d bytes, error %d", len(b), len(got), err)
		}
		twice := crc.Mark(m)
		if got, err := crc.Fits(twice); err != api.OK || !bytes.Equal(got, m) {
			t.Errorf("Fits of %d bytes that are marked twice: %d bytes, error %d", len(b), len(got), err)
		}
	}
}

func TestSumOfMarkedBytes(t *testing.T) { // P2.3
	const always = 0x2144df1c
	for _, b := range someBytes() {
		m := crc.Mark(b)
		if got := crc.Sum(m); got != always {
			t.Errorf("Sum of %d marked bytes = %#x", len(b), got)
		}
		if got := crc.Sum(crc.Mark(m)); got != always {
			t.Errorf("Sum of %d bytes that are marked twice = %#x", len(b), got)
		}
		if got := crc.Sum(m[:len(b)], m[len(b):]); got != always {
			t.Errorf("Sum of %d bytes and their sum's = %#x", len(b), got)
		}
	}
	if got := crc.Sum(crc.Mark()); got != always {
		t.Errorf("Sum of no bytes, marked = %#x", got)
	}
}

// wantNot asks for an error and nothing beside it.
func wantNot(t *testing.T, b []byte, want api.Errno) {
	t.Helper()
	if got, err := crc.Fits(b); err != want || got != nil {
		t.Errorf("Fits of %d bytes: %v, error %d; want error %d", len(b), got, err, want)
	}
}

func TestFitsFewerThanFour(t *testing.T) { // P2.1, P0.2, P0.5
	for _, b := range [][]byte{nil, {}, {0}, {7}, {0, 0}, {1, 2}, {0, 0, 0}, {255, 255, 255}} {
		wantNot(t, b, api.ErrShort)
	}
	m := crc.Mark([]byte("123456789"))
	for size := range 4 {
		wantNot(t, m[:size], api.ErrShort) // the room behind the end is no part of it
		wantNot(t, m[len(m)-size:], api.ErrShort)
	}
}

func TestFitsJustASum(t *testing.T) { // P2.1, P0.2
	if got, err := crc.Fits(make([]byte, 4)); err != api.OK || len(got) != 0 {
		t.Errorf("Fits of no bytes' sum: %v, error %d", got, err)
	}
	for bit := range 32 {
		b := make([]byte, 4)
		b[bit/8] = 1 << (bit % 8)
		wantNot(t, b, api.ErrSum)
	}
	wantNot(t, []byte{255, 255, 255, 255}, api.ErrSum)
	wantNot(t, []byte{0x1c, 0xdf, 0x44, 0x21}, api.ErrSum)
	wantNot(t, []byte("1234"), api.ErrSum)
}

func TestFitsWrongOnes(t *testing.T) { // P2.1, P0.2
	for _, b := range someBytes() {
		m := toldMark(b)
		highest := append(bytes.Clone(b), m[len(m)-1], m[len(m)-2], m[len(m)-3], m[len(m)-4])
		if !bytes.Equal(highest, m) {
			wantNot(t, highest, api.ErrSum)
		}
		wantNot(t, append(bytes.Clone(m), 0), api.ErrSum)
		if len(b) > 0 {
			wantNot(t, m[:len(m)-1], api.ErrSum)
			wantNot(t, m[1:], api.ErrSum)
		}
	}
}

// turn turns bits of b from a place on: the bit j is that of the byte j / 8 that counts 2 to the j modulo 8.
func turn(b []byte, at int, bits uint32) {
	for k := range 32 {
		if bits>>k&1 == 1 {
			b[(at+k)/8] ^= 1 << ((at + k) % 8)
		}
	}
}

// wantTurnedNot turns bits, asks, and turns them back.
func wantTurnedNot(t *testing.T, m []byte, at int, bits uint32) {
	t.Helper()
	turn(m, at, bits)
	if got, err := crc.Fits(m); err != api.ErrSum || got != nil {
		t.Errorf("Fits of %d bytes, turned at %d by %#x: %v, error %d", len(m), at, bits, got, err)
	}
	turn(m, at, bits)
}

func TestOneBitTurned(t *testing.T) { // P2.2
	dice := rand.New(rand.NewSource(4))
	for _, size := range []int{0, 1, 2, 3, 4, 9, 64, 300} {
		m := crc.Mark(rolled(dice, size))
		for j := range 8 * len(m) {
			m[j/8] ^= 1 << (j % 8)
			wantNot(t, m, api.ErrSum)
			m[j/8] ^= 1 << (j % 8)
		}
	}
}

func TestBitsTurnedWithin32(t *testing.T) { // P2.2
	dice := rand.New(rand.NewSource(5))
	for _, size := range []int{0, 1, 2, 4, 5, 9, 33} {
		m := crc.Mark(rolled(dice, size))
		for at := range 8*len(m) - 31 { // from the front, over the border, to the sum's own last bit
			for k := range 32 {
				wantTurnedNot(t, m, at, 1|1<<k)
				wantTurnedNot(t, m, at, 1<<31|1<<k)
				wantTurnedNot(t, m, at, ^uint32(0)>>k)
				wantTurnedNot(t, m, at, ^uint32(0)<<k)
			}
			for _, bits := range []uint32{0xedb88320, 0x04c11db7, 0xdebb20e3, 0x2144df1c, 0xaaaaaaaa, 0x55555555} {
				wantTurnedNot(t, m, at, bits)
			}
			for range 20 {
				wantTurnedNot(t, m, at, dice.Uint32()|1<<dice.Intn(32))
			}
		}
		if got, err := crc.Fits(m); err != api.OK || len(got) != size {
			t.Errorf("Fits behind all turns were taken back: %d bytes, error %d", len(got), err)
		}
	}
}

func TestBitsTurnedInLongOnes(t *testing.T) { // P2.2
	dice := rand.New(rand.NewSource(6))
	m := crc.Mark(rolled(dice, 1<<16))
	last := 8*len(m) - 32
	for _, at := range []int{0, 1, 7, 8, last / 2, last/2 + 3, last - 32, last - 31, last - 16, last - 1, last} {
		for _, bits := range []uint32{1, 1 << 31, 1<<31 | 1, ^uint32(0), dice.Uint32() | 1} {
			wantTurnedNot(t, m, at, bits)
		}
	}
}

func TestMarkAnswersMemoryOfItsOwn(t *testing.T) { // P2.1, P0.4
	for name, mark := range map[string]func(b []byte) []byte{
		"one row":       func(b []byte) []byte { return crc.Mark(b) },
		"row and none":  func(b []byte) []byte { return crc.Mark(b, nil) },
		"none and row":  func(b []byte) []byte { return crc.Mark(nil, b) },
		"the row twice": func(b []byte) []byte { return crc.Mark(b, b) },
		"no rows":       func(b []byte) []byte { return crc.Mark() },
	} {
		for _, front := range []int{0, 1, 5} {
			room := []byte("123456789012345678901234567890")
			before := bytes.Clone(room)
			first, second := mark(room[:front]), mark(room[:front])
			if !bytes.Equal(room, before) {
				t.Errorf("%s: wrote into what was handed in: %q", name, room)
			}
			want := bytes.Clone(second)
			spoil(first)
			if !bytes.Equal(room, before) || !bytes.Equal(second, want) {
				t.Errorf("%s: the answer shares memory: %q, %q", name, room, second)
			}
			spoil(room)
			if !bytes.Equal(second, want) {
				t.Errorf("%s: the answer hangs on what was handed in: %q", name, second)
			}
		}
	}
}

func TestRowsAreLeftAsTheyWere(t *testing.T) { // P0.4
	text := []byte("123456789")
	l := [][]byte{text[:4], nil, text[4:]}
	crc.Sum(l...)
	crc.Mark(l...)
	if string(text) != "123456789" || string(l[0]) != "1234" || l[1] != nil || string(l[2]) != "56789" {
		t.Errorf("rows that were handed in are changed: %q", l)
	}
}

func TestFitsAnswersMemoryOfItsOwn(t *testing.T) { // P2.1, P0.4
	for _, text := range []string{"", "1", "123456789"} {
		m := crc.Mark([]byte(text))
		before := bytes.Clone(m)
		first, _ := crc.Fits(m)
		second, _ := crc.Fits(m)
		spoil(first)
		if !bytes.Equal(m, before) || string(second) != text {
			t.Errorf("Fits shares memory: %q, %q", m, second)
		}
		if again, err := crc.Fits(m); err != api.OK || string(again) != text {
			t.Errorf("Fits behind its answer was written to: %q, error %d", again, err)
		}
		spoil(m)
		if string(second) != text {
			t.Errorf("Fits hangs on what was handed in: %q", second)
		}
		turned := bytes.Clone(m)
		wantNot(t, m, api.ErrSum)
		if !bytes.Equal(m, turned) {
			t.Errorf("Fits changed what doesn't fit: %q", m)
		}
	}
}

func TestAnswersHangOnArgumentsAlone(t *testing.T) { // P0.6
	text := []byte("123456789")
	for range 3 {
		crc.Sum([]byte("something else"))
		crc.Fits([]byte("something else"))
		if crc.Sum(text) != 0xcbf43926 || crc.Sum() != 0 {
			t.Errorf("Sum hangs on earlier calls: %#x, %#x", crc.Sum(text), crc.Sum())
		}
	}
}

func FuzzFits(f *testing.F) { // P2.1, P2.2, P2.3
	f.Add([]byte(nil), uint(0), uint32(1))
	f.Add([]byte{0, 0, 0, 0}, uint(31), uint32(1<<31|1))
	f.Add([]byte("123456789\x26\x39\xf4\xcb"), uint(70), ^uint32(0))
	f.Fuzz(func(t *testing.T, b []byte, at uint, bits uint32) {
		got, err := crc.Fits(b)
		switch {
		case len(b) < 4 && (err != api.ErrShort || got != nil):
			t.Fatalf("Fits(%v) = %v, error %d", b, got, err)
		case len(b) >= 4 && bytes.Equal(toldMark(b[:len(b)-4]), b) && (err != api.OK || !bytes.Equal(got, b[:len(b)-4])):
			t.Fatalf("Fits(%v) = %v, error %d", b, got, err)
		case len(b) >= 4 && !bytes.Equal(toldMark(b[:len(b)-4]), b) && (err != api.ErrSum || got != nil):
			t.Fatalf("Fits(%v) = %v, error %d", b, got, err)
		}
		m := crc.Mark(b)
		if !bytes.Equal(m, toldMark(b)) || crc.Sum(m) != 0x2144df1c {
			t.Fatalf("Mark(%v) = %v, its sum %#x", b, m, crc.Sum(m))
		}
		if bits != 0 {
			wantTurnedNot(t, m, int(at%uint(8*len(m)-31)), bits)
		}
	})
}
