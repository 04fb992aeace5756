package num_test

import (
	"bytes"
	"math"
	"math/rand"
	"testing"

	"unison/api"
	"unison/num"
)

// wantSame asks twice: looking at a reader must not change it.
func wantSame(t *testing.T, r *num.Reader, left int, err, end api.Errno) {
	t.Helper()
	for range 2 {
		if r.Left() != left || r.Err() != err || r.End() != end {
			t.Errorf("Left %d, Err %d, End %d; want %d, %d, %d", r.Left(), r.Err(), r.End(), left, err, end)
		}
	}
}

// wantBad asks a bad reader again, for what stands there and for less and more than that.
func wantBad(t *testing.T, r *num.Reader, left int, err api.Errno) {
	t.Helper()
	wantSame(t, r, left, err, err)
	for _, most := range []uint64{math.MaxUint64, 0, 1} {
		if n := r.Num(most); n != 0 {
			t.Errorf("Num(%d) of a bad reader: %d", most, n)
		}
	}
	for _, most := range []int{math.MaxInt, 0, math.MinInt} {
		if row := r.Row(most); len(row) != 0 {
			t.Errorf("Row(%d) of a bad reader: %v", most, row)
		}
	}
	wantSame(t, r, left, err, err)
}

func TestPutBytes(t *testing.T) { // P1.1
	for _, c := range []struct {
		b    []byte
		l    []uint64
		want []byte
	}{
		{nil, nil, nil},
		{[]byte{}, []uint64{}, nil},
		{[]byte{7, 0}, nil, []byte{7, 0}},
		{nil, []uint64{0}, []byte{0}},
		{nil, []uint64{0, 0, 0}, []byte{0, 0, 0}},
		{nil, []uint64{1}, []byte{1, 1}},
		{nil, []uint64{255}, []byte{1, 255}},
		{nil, []uint64{256}, []byte{2, 0, 1}},
		{nil, []uint64{258}, []byte{2, 2, 1}},
		{[]byte{9}, []uint64{258, 0, 8}, []byte{9, 2, 2, 1, 0, 1, 8}},
		{nil, []uint64{0x0807060504030201}, []byte{8, 1, 2, 3, 4, 5, 6, 7, 8}},
		{nil, []uint64{1 << 56}, []byte{8, 0, 0, 0, 0, 0, 0, 0, 1}},
		{nil, []uint64{1<<56 - 1}, []byte{7, 255, 255, 255, 255, 255, 255, 255}},
		{nil, []uint64{math.MaxUint64}, []byte{8, 255, 255, 255, 255, 255, 255, 255, 255}},
	} {
		if got := num.Put(c.b, c.l...); !bytes.Equal(got, c.want) {
			t.Errorf("Put(%v, %v) = %v, want %v", c.b, c.l, got, c.want)
		}
	}
}

func TestPutTakesAsFewBytesAsWillDo(t *testing.T) { // P1.1
	for size := 1; size <= 8; size++ {
		least := uint64(1) << (8 * (size - 1))
		most := uint64(math.MaxUint64) >> (64 - 8*size)
		for _, n := range []uint64{least, least + 1, most - 1, most} {
			b := num.Put(nil, n)
			if len(b) != 1+size || int(b[0]) != size || b[size] == 0 {
				t.Errorf("Put(%d) = %v, want %d bytes behind the first", n, b, size)
			}
		}
	}
}

func TestRowsBytes(t *testing.T) { // P1.1
	for _, c := range []struct {
		b    []byte
		l    [][]byte
		want []byte
	}{
		{nil, nil, nil},
		{[]byte{3}, nil, []byte{3}},
		{nil, [][]byte{nil}, []byte{0}},
		{nil, [][]byte{{}, nil, {}}, []byte{0, 0, 0}},
		{nil, [][]byte{{0}}, []byte{1, 1, 0}},
		{[]byte{9, 9}, [][]byte{[]byte("ab"), nil, []byte("c")}, []byte{9, 9, 1, 2, 'a', 'b', 0, 1, 1, 'c'}},
	} {
		if got := num.Rows(c.b, c.l...); !bytes.Equal(got, c.want) {
			t.Errorf("Rows(%v, %v) = %v, want %v", c.b, c.l, got, c.want)
		}
	}
	for _, size := range []int{255, 256, 65535, 65536, 1 << 20} {
		row := bytes.Repeat([]byte{5}, size)
		want := append(num.Put([]byte{1}, uint64(size)), row...)
		if got := num.Rows([]byte{1}, row); !bytes.Equal(got, want) {
			t.Errorf("Rows of %d bytes is wrong", size)
		}
	}
}

func TestPutAndRowsAnswerMemoryOfTheirOwn(t *testing.T) { // P0.4, P1.1
	for name, put := range map[string]func(b []byte) []byte{
		"Put":         func(b []byte) []byte { return num.Put(b, 258) },
		"Put, none":   func(b []byte) []byte { return num.Put(b) },
		"Rows":        func(b []byte) []byte { return num.Rows(b, []byte("ab")) },
		"Rows, none":  func(b []byte) []byte { return num.Rows(b) },
		"Rows, of it": func(b []byte) []byte { return num.Rows(b, b, b[:1]) },
	} {
		for _, front := range []int{0, 1, 3} {
			room := []byte{7, 7, 7, 7, 7, 7, 7, 7, 7, 7, 7, 7}
			before := bytes.Clone(room)
			b := room[:front]
			if name == "Rows, of it" {
				b = room[:max(front, 1)]
			}
			first := put(b)
			second := put(b)
			if !bytes.Equal(room, before) {
				t.Errorf("%s: wrote into what was handed in: %v", name, room)
			}
			want := bytes.Clone(second)
			spoil(first)
			if !bytes.Equal(room, before) || !bytes.Equal(second, want) {
				t.Errorf("%s: the answer shares memory: %v, %v", name, room, second)
			}
			spoil(room)
			if !bytes.Equal(second, want) {
				t.Errorf("%s: the answer hangs on what was handed in: %v", name, second)
			}
		}
	}
}

// spoil overwrites a list and the room behind its end.
func spoil(b []byte) {
	b = b[:cap(b)]
	for i := range b {
		b[i] = 99
	}
}

func TestRowsDoesNotShareItsRows(t *testing.T) { // P0.4
	row := []byte("ab")
	got := num.Rows(nil, row)
	row[0] = 'x'
	if !bytes.Equal(got, []byte{1, 2, 'a', 'b'}) {
		t.Errorf("Rows hangs on its row: %v", got)
	}
	got[2] = 'y'
	if string(row) != "xb" {
		t.Errorf("Rows shares its row: %q", row)
	}
}

func TestNumReads(t *testing.T) { // P1.1
	for _, c := range []struct {
		b          []byte
		most, want uint64
		left       int
	}{
		{[]byte{0}, 0, 0, 0},
		{[]byte{0}, math.MaxUint64, 0, 0},
		{[]byte{0, 9}, 0, 0, 1},
		{[]byte{1, 1}, 1, 1, 0},
		{[]byte{1, 100, 5, 6}, 100, 100, 2},
		{[]byte{2, 2, 1}, 258, 258, 0},
		{[]byte{2, 0, 1}, 256, 256, 0},
		{[]byte{8, 1, 2, 3, 4, 5, 6, 7, 8, 0}, math.MaxUint64, 0x0807060504030201, 1},
		{[]byte{8, 255, 255, 255, 255, 255, 255, 255, 255}, math.MaxUint64, math.MaxUint64, 0},
		{[]byte{8, 0, 0, 0, 0, 0, 0, 0, 128}, 1 << 63, 1 << 63, 0},
	} {
		r := num.New(c.b)
		wantSame(t, r, len(c.b), api.OK, api.ErrLong)
		if n := r.Num(c.most); n != c.want || r.Left() != c.left || r.Err() != api.OK {
			t.Errorf("Num(%d) of %v = %d, left %d, error %d; want %d, left %d", c.most, c.b, n, r.Left(), r.Err(), c.want, c.left)
		}
	}
}

func TestNumGetsBad(t *testing.T) { // P1.1, P0.2, P0.3
	for _, c := range []struct {
		b    []byte
		most uint64
		want api.Errno
	}{
		{nil, 5, api.ErrShort},
		{[]byte{}, 0, api.ErrShort},
		{[]byte{9}, 5, api.ErrForm}, // above 8 is told ahead of what lacks
		{[]byte{9, 1, 1, 1, 1, 1, 1, 1, 1, 1}, math.MaxUint64, api.ErrForm},
		{[]byte{255, 0}, 5, api.ErrForm},
		{[]byte{1}, 5, api.ErrShort},
		{[]byte{2, 0}, 5, api.ErrShort}, // what lacks is told ahead of a last byte that is 0
		{[]byte{8, 1, 1, 1, 1, 1, 1, 1}, 5, api.ErrShort},
		{[]byte{1, 0}, 5, api.ErrForm},
		{[]byte{1, 0}, 0, api.ErrForm},
		{[]byte{2, 7, 0}, 5, api.ErrForm}, // that is told ahead of a number above most
		{[]byte{8, 1, 1, 1, 1, 1, 1, 1, 0}, math.MaxUint64, api.ErrForm},
		{[]byte{1, 1}, 0, api.ErrRange},
		{[]byte{1, 6, 3}, 5, api.ErrRange},
		{[]byte{2, 0, 1}, 255, api.ErrRange},
		{[]byte{8, 255, 255, 255, 255, 255, 255, 255, 255}, math.MaxUint64 - 1, api.ErrRange},
		{[]byte{8, 0, 0, 0, 0, 0, 0, 0, 128}, math.MaxInt64, api.ErrRange},
	} {
		r := num.New(c.b)
		if n := r.Num(c.most); n != 0 || r.Err() != c.want {
			t.Errorf("Num(%d) of %v = %d, error %d; want error %d", c.most, c.b, n, r.Err(), c.want)
		}
		wantBad(t, r, len(c.b), c.want)
	}
}

func TestRowReads(t *testing.T) { // P1.1
	for _, c := range []struct {
		b    []byte
		most int
		want string
		left int
	}{
		{[]byte{0}, 0, "", 0},
		{[]byte{0}, -1, "", 0},
		{[]byte{0, 4}, math.MinInt, "", 1},
		{[]byte{0}, math.MaxInt, "", 0},
		{[]byte{1, 1, 'a'}, 1, "a", 0},
		{[]byte{1, 3, 'a', 'b', 'c', 'd'}, 3, "abc", 1},
		{[]byte{1, 3, 0, 0, 0}, math.MaxInt, "\x00\x00\x00", 0},
	} {
		r := num.New(c.b)
		if row := r.Row(c.most); string(row) != c.want || r.Left() != c.left || r.Err() != api.OK {
			t.Errorf("Row(%d) of %v = %q, left %d, error %d; want %q, left %d", c.most, c.b, row, r.Left(), r.Err(), c.want, c.left)
		}
	}
	long := bytes.Repeat([]byte{6}, 70000)
	r := num.New(num.Rows(nil, long))
	if row := r.Row(len(long)); !bytes.Equal(row, long) || r.End() != api.OK {
		t.Errorf("Row of %d bytes has %d, error %d", len(long), len(row), r.End())
	}
}

func TestRowGetsBad(t *testing.T) { // P1.1, P0.2, P0.3
	most := num.Put(nil, math.MaxUint64)
	for _, c := range []struct {
		b    []byte
		most int
		want api.Errno
	}{
		{nil, 5, api.ErrShort},
		{nil, -1, api.ErrShort},
		{[]byte{9}, 5, api.ErrForm},
		{[]byte{1}, 5, api.ErrShort},
		{[]byte{2, 0}, -1, api.ErrShort},
		{[]byte{1, 0, 1}, 5, api.ErrForm},
		{[]byte{2, 7, 0}, 5, api.ErrForm},
		{[]byte{1, 1, 'a'}, 0, api.ErrLong},
		{[]byte{1, 1, 'a'}, -1, api.ErrLong},
		{[]byte{1, 1, 'a'}, math.MinInt, api.ErrLong},
		{[]byte{1, 4, 'a', 'b', 'c', 'd'}, 3, api.ErrLong},
		{[]byte{1, 4, 'a'}, 3, api.ErrLong}, // too long is told ahead of what lacks
		{[]byte{1, 4}, 4, api.ErrShort},
		{[]byte{1, 4, 'a', 'b', 'c'}, 4, api.ErrShort},
		{[]byte{1, 4, 'a', 'b', 'c'}, math.MaxInt, api.ErrShort},
		{num.Put(nil, math.MaxInt), math.MaxInt, api.ErrShort},
		{num.Put(nil, math.MaxInt), math.MaxInt - 1, api.ErrLong},
		{num.Put(nil, 1<<63), math.MaxInt, api.ErrLong},
		{most, math.MaxInt, api.ErrLong},
		{append(most, 'a'), 5, api.ErrLong},
		{most, -1, api.ErrLong},
	} {
		r := num.New(c.b)
		if row := r.Row(c.most); len(row) != 0 || r.Err() != c.want {
			t.Errorf("Row(%d) of %v = %v, error %d; want error %d", c.most, c.b, row, r.Err(), c.want)
		}
		wantBad(t, r, len(c.b), c.want)
	}
}

func TestBadReaderStaysWhereItWas(t *testing.T) { // P1.1, P0.3
	r := num.New([]byte{1, 7, 1, 2, 'a', 'b', 1, 9, 1, 8})
	if n, row := r.Num(7), r.Row(2); n != 7 || string(row) != "ab" || r.Left() != 4 {
		t.Fatalf("read %d, %q, left %d", n, row, r.Left())
	}
	if n := r.Num(8); n != 0 {
		t.Errorf("Num above most: %d", n)
	}
	wantBad(t, r, 4, api.ErrRange)

	r = num.New([]byte{1, 7, 1, 2, 'a', 'b'})
	r.Num(7)
	if row := r.Row(1); len(row) != 0 {
		t.Errorf("Row above most: %v", row)
	}
	wantBad(t, r, 4, api.ErrLong)
}

func TestEnd(t *testing.T) { // P1.1
	wantSame(t, num.New(nil), 0, api.OK, api.OK)
	wantSame(t, num.New([]byte{9}), 1, api.OK, api.ErrLong)
	r := num.New([]byte{0, 0})
	r.Num(0)
	wantSame(t, r, 1, api.OK, api.ErrLong)
	r.Row(0) // that bytes were left is no error that is kept
	wantSame(t, r, 0, api.OK, api.OK)
	r.Num(0)
	wantBad(t, r, 0, api.ErrShort)
}

func TestNilReader(t *testing.T) { // P1.1, P0.1
	var r *num.Reader
	wantBad(t, r, 0, api.OK)
	if num.New(nil) == nil {
		t.Error("New(nil) is a nil reader: it would never get bad")
	}
}

func TestReaderKeepsNothingThatIsHandedIn(t *testing.T) { // P0.4
	b := []byte{1, 5, 1, 2, 'a', 'b', 1, 2, 'c', 'd'}
	before := bytes.Clone(b)
	r := num.New(b)
	spoil(b)
	n, first, second := r.Num(5), r.Row(2), r.Row(2)
	if n != 5 || string(first) != "ab" || string(second) != "cd" || r.End() != api.OK {
		t.Errorf("read %d, %q, %q, error %d behind a change of what was handed in", n, first, second, r.End())
	}

	r = num.New(before)
	r.Num(5)
	first = r.Row(2)
	spoil(first)
	if second = r.Row(2); string(second) != "cd" {
		t.Errorf("writing into a row that was read changed the next one: %q", second)
	}
	spoil(second)
	if !bytes.Equal(before, []byte{1, 5, 1, 2, 'a', 'b', 1, 2, 'c', 'd'}) {
		t.Errorf("writing into a row that was read changed what was handed in: %v", before)
	}
}

// told is a second reading of the chapter, to hold the package's against.
func told(b []byte, most uint64) (n uint64, left int, err api.Errno) {
	switch {
	case len(b) < 1:
		return 0, len(b), api.ErrShort
	case b[0] > 8:
		return 0, len(b), api.ErrForm
	case len(b)-1 < int(b[0]):
		return 0, len(b), api.ErrShort
	}
	follow := b[1 : 1+b[0]]
	place := uint64(1)
	for _, x := range follow {
		n += uint64(x) * place
		place *= 256
	}
	switch {
	case len(follow) > 0 && follow[len(follow)-1] == 0:
		return 0, len(b), api.ErrForm
	case n > most:
		return 0, len(b), api.ErrRange
	}
	return n, len(b) - 1 - len(follow), api.OK
}

// eachShort goes through all lists of up to so many bytes of some.
func eachShort(most int, of []byte, do func(b []byte)) {
	list := [][]byte{nil}
	for len(list) > 0 {
		b := list[len(list)-1]
		list = list[:len(list)-1]
		do(b)
		if len(b) < most {
			for _, x := range of {
				list = append(list, append(bytes.Clone(b), x))
			}
		}
	}
}

func TestReadsAllShortBytesAsTold(t *testing.T) { // P1.1, P1.2
	eachShort(5, []byte{0, 1, 2, 3, 8, 9, 255}, func(b []byte) {
		for _, most := range []uint64{0, 1, 2, 255, 256, math.MaxUint64} {
			r := num.New(b)
			n := r.Num(most)
			want, left, err := told(b, most)
			if n != want || r.Left() != left || r.Err() != err {
				t.Fatalf("Num(%d) of %v = %d, left %d, error %d; want %d, %d, %d", most, b, n, r.Left(), r.Err(), want, left, err)
			}
		}
		for _, most := range []int{-1, 0, 1, 2, 3, math.MaxInt} {
			r := num.New(b)
			row := r.Row(most)
			size, left, err := told(b, math.MaxUint64)
			switch {
			case err != api.OK:
			case most < 0 && size > 0 || most >= 0 && size > uint64(most):
				err = api.ErrLong
			case size > uint64(left):
				err = api.ErrShort
			}
			var want []byte
			if err == api.OK {
				want = b[len(b)-left : len(b)-left+int(size)]
				left -= int(size)
			} else {
				left = len(b)
			}
			if !bytes.Equal(row, want) || r.Left() != left || r.Err() != err {
				t.Fatalf("Row(%d) of %v = %v, left %d, error %d; want %v, %d, %d", most, b, row, r.Left(), r.Err(), want, left, err)
			}
		}
	})
}

// wantBack puts numbers and rows, and reads them again.
func wantBack(t *testing.T, l []uint64, rows [][]byte) {
	t.Helper()
	r := num.New(num.Rows(num.Put(nil, l...), rows...))
	for _, n := range l {
		if got := r.Num(n); got != n {
			t.Fatalf("put %d, read %d, error %d", n, got, r.Err())
		}
	}
	for _, row := range rows {
		if got := r.Row(len(row)); !bytes.Equal(got, row) {
			t.Fatalf("put %v, read %v, error %d", row, got, r.Err())
		}
	}
	if r.End() != api.OK {
		t.Fatalf("End %d, left %d", r.End(), r.Left())
	}
}

func TestThereAndBack(t *testing.T) { // P1.2
	wantBack(t, nil, nil)
	wantBack(t, []uint64{0, 1, 255, 256, 1 << 32, 1 << 63, math.MaxUint64}, [][]byte{nil, {0}, {0, 0}, {9, 9, 9}})
	for bit := range 64 {
		wantBack(t, []uint64{1 << bit, 1<<bit - 1, math.MaxUint64 - 1<<bit}, nil)
	}
	dice := rand.New(rand.NewSource(1))
	for range 2000 {
		l := make([]uint64, dice.Intn(6))
		for i := range l {
			l[i] = dice.Uint64() >> dice.Intn(65)
		}
		rows := make([][]byte, dice.Intn(6))
		for i := range rows {
			rows[i] = make([]byte, dice.Intn(600))
			dice.Read(rows[i])
		}
		wantBack(t, l, rows)
	}
}

// wantAsItStood reads whatever bytes, as numbers or rows by turns, and puts what was read.
func wantAsItStood(t *testing.T, b []byte, turns uint64) {
	t.Helper()
	r := num.New(b)
	var again []byte
	for r.Left() > 0 {
		if turns&1 == 0 {
			n := r.Num(math.MaxUint64)
			if r.Err() != api.OK {
				break
			}
			again = num.Put(again, n)
		} else {
			row := r.Row(len(b))
			if r.Err() != api.OK {
				break
			}
			again = num.Rows(again, row)
		}
		turns = turns>>1 | turns<<63
	}
	if stood := b[:len(b)-r.Left()]; !bytes.Equal(again, stood) {
		t.Fatalf("read from %v, put again as %v", stood, again)
	}
}

func TestWhatIsReadIsPutAsItStood(t *testing.T) { // P1.2
	eachShort(6, []byte{0, 1, 2, 8, 9}, func(b []byte) {
		for turns := range uint64(8) {
			wantAsItStood(t, b, turns)
		}
	})
}

func FuzzWhatIsReadIsPutAsItStood(f *testing.F) { // P1.2, P0.1
	f.Add([]byte{2, 2, 1, 0, 1, 2, 'a', 'b'}, uint64(4))
	f.Add([]byte{8, 255, 255, 255, 255, 255, 255, 255, 255}, uint64(1))
	f.Fuzz(wantAsItStood)
}
