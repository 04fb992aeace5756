package wire_test

import (
	"bytes"
	"encoding/binary"
	"hash/crc32"
	"math"
	"math/big"
	"math/bits"
	"math/rand"
	"reflect"
	"slices"
	"strings"
	"testing"

	"unison/api"
	"unison/wire"
)

const (
	lastSeq = uint64(api.MaxSeq)
	huge    = uint64(math.MaxUint64)
)

func run(from uint8, first, count uint64) api.Run {
	return api.Run{From: from, First: first, Count: count}
}

func id(from uint8, seq uint64) api.ID { return api.ID{From: from, Seq: seq} }

// head is one from 3 to 5.
func head(kind uint8) api.Head { return api.Head{Kind: kind, From: 3, To: 5} }

// toldFields is the chapter's table.
func toldFields() map[uint8]string {
	return map[uint8]string{
		1:  "Seq ID At Of Size Data",
		2:  "Seq",
		3:  "ID At",
		4:  "ID At Of Size Data",
		5:  "Seq",
		6:  "Inst Round Est",
		7:  "Inst Round Est Aux",
		8:  "Inst Est",
		9:  "Inst Done Held",
		10: "Seq",
	}
}

func allFields() []string {
	return strings.Fields("Seq ID At Of Size Data Inst Round Est Aux Done Held")
}

// toldRows goes by numbers as great as they are: sums of 64 bits could wrap round.
func toldRows(l []api.Run) bool {
	big64 := func(n uint64) *big.Int { return new(big.Int).SetUint64(n) }
	total := new(big.Int)
	for i, x := range l {
		next := new(big.Int).Add(big64(x.First), big64(x.Count))
		if x.From >= 64 || x.First == 0 || x.Count == 0 || next.Cmp(big64(1<<62+1)) > 0 {
			return false
		}
		if i > 0 && l[i-1].From > x.From {
			return false
		}
		if i > 0 && l[i-1].From == x.From && l[i-1].First+l[i-1].Count >= x.First {
			return false
		}
		total.Add(total, big64(x.Count))
	}
	return len(l) <= 64 && total.Cmp(big.NewInt(4096)) <= 0
}

func toldVector(v []uint64) bool {
	for _, n := range v {
		if n > 1<<62 {
			return false
		}
	}
	return len(v) <= 64
}

// toldField tells whether a field that is the Kind's own is within its limits.
func toldField(f api.Frame, name string) bool {
	switch name {
	case "Seq":
		return f.Seq <= 1<<62
	case "ID":
		return f.ID.From < 64 && f.ID.Seq >= 1 && f.ID.Seq <= 1<<62
	case "At":
		return f.At < 1<<20 && (f.Kind == 3 || f.At < f.Of)
	case "Of":
		return f.Of <= 1<<20
	case "Size":
		return f.Size <= 1<<20
	case "Data":
		return len(f.Data) <= 1<<16
	case "Inst":
		return f.Inst <= 1<<62 && (f.Inst >= 1 || f.Kind == 9)
	case "Round":
		return f.Round <= 1<<62
	case "Est":
		return toldRows(f.Est) && (f.Kind != 8 || len(f.Est) > 0)
	case "Aux":
		return toldRows(f.Aux)
	case "Done":
		return toldVector(f.Done)
	}
	return toldVector(f.Held)
}

func isZero(f api.Frame, name string) bool {
	field := reflect.ValueOf(f).FieldByName(name)
	return field.IsZero() || field.Kind() == reflect.Slice && field.Len() == 0
}

func toldMay(f api.Frame) bool {
	told, ok := toldFields()[f.Kind]
	if !ok || f.From >= 64 || f.To >= 64 || f.From == f.To {
		return false
	}
	own := strings.Fields(told)
	for _, name := range allFields() {
		if slices.Contains(own, name) && !toldField(f, name) || !slices.Contains(own, name) && !isZero(f, name) {
			return false
		}
	}
	return true
}

// number is a number's bytes, as the chapter of layer 1 says.
func number(n uint64) []byte {
	size := (bits.Len64(n) + 7) / 8
	return append([]byte{byte(size)}, binary.LittleEndian.AppendUint64(nil, n)[:size]...)
}

func numbers(l ...uint64) []byte {
	var b []byte
	for _, n := range l {
		b = append(b, number(n)...)
	}
	return b
}

// marked is bytes with the sum behind them.
func marked(b []byte) []byte {
	return binary.LittleEndian.AppendUint32(bytes.Clone(b), crc32.ChecksumIEEE(b))
}

// framed is a frame of what stands between the first number and the sum: Version
// and all that follows.
func framed(inner ...byte) []byte {
	return marked(append(number(uint64(len(inner)+4)), inner...))
}

func toldRunBytes(l []api.Run) []byte {
	b := number(uint64(len(l)))
	for _, x := range l {
		b = append(b, numbers(uint64(x.From), x.First, x.Count)...)
	}
	return b
}

func toldVectorBytes(v []uint64) []byte { return append(number(uint64(len(v))), numbers(v...)...) }

// toldBytes are a frame's bytes, whether it may be or not, if there is its Kind.
func toldBytes(f api.Frame) []byte {
	inner := []byte{1, f.Kind, f.From, f.To}
	for _, name := range strings.Fields(toldFields()[f.Kind]) {
		inner = append(inner, map[string]func() []byte{
			"Seq":   func() []byte { return number(f.Seq) },
			"ID":    func() []byte { return numbers(uint64(f.ID.From), f.ID.Seq) },
			"At":    func() []byte { return number(uint64(f.At)) },
			"Of":    func() []byte { return number(uint64(f.Of)) },
			"Size":  func() []byte { return number(uint64(f.Size)) },
			"Data":  func() []byte { return append(number(uint64(len(f.Data))), f.Data...) },
			"Inst":  func() []byte { return number(f.Inst) },
			"Round": func() []byte { return number(f.Round) },
			"Est":   func() []byte { return toldRunBytes(f.Est) },
			"Aux":   func() []byte { return toldRunBytes(f.Aux) },
			"Done":  func() []byte { return toldVectorBytes(f.Done) },
			"Held":  func() []byte { return toldVectorBytes(f.Held) },
		}[name]()...)
	}
	return framed(inner...)
}

// scan is what is left of bytes that are read, and the first error.
type scan struct {
	rest []byte
	err  api.Errno
}

// number is the next number, or the first error that layer 1 names.
func (s *scan) number(most uint64) uint64 {
	if s.err != 0 {
		return 0
	}
	if len(s.rest) == 0 {
		s.err = api.ErrShort
		return 0
	}
	size := int(s.rest[0])
	if size > 8 {
		s.err = api.ErrForm
		return 0
	}
	if len(s.rest) <= size {
		s.err = api.ErrShort
		return 0
	}
	var all [8]byte
	copy(all[:], s.rest[1:1+size])
	n := binary.LittleEndian.Uint64(all[:])
	if !bytes.Equal(number(n), s.rest[:1+size]) {
		s.err = api.ErrForm
		return 0
	}
	if n > most {
		s.err = api.ErrRange
		return 0
	}
	s.rest = s.rest[1+size:]
	return n
}

func (s *scan) data() []byte {
	size := s.number(huge)
	if s.err != 0 {
		return nil
	}
	if size > 1<<16 {
		s.err = api.ErrLong
		return nil
	}
	if size > uint64(len(s.rest)) {
		s.err = api.ErrShort
		return nil
	}
	b := s.rest[:size]
	s.rest = s.rest[size:]
	return b
}

func (s *scan) runs() (l []api.Run) {
	for count := s.number(64); count > 0; count-- {
		from := s.number(255)
		first := s.number(huge)
		l = append(l, run(uint8(from), first, s.number(huge)))
	}
	return l
}

func (s *scan) vector() (v []uint64) {
	for count := s.number(64); count > 0; count-- {
		v = append(v, s.number(huge))
	}
	return v
}

func (s *scan) field(f *api.Frame, name string) {
	switch name {
	case "Seq":
		f.Seq = s.number(huge)
	case "ID":
		f.ID.From = uint8(s.number(255))
		f.ID.Seq = s.number(huge)
	case "At":
		f.At = uint32(s.number(1<<32 - 1))
	case "Of":
		f.Of = uint32(s.number(1<<32 - 1))
	case "Size":
		f.Size = uint32(s.number(1<<32 - 1))
	case "Data":
		f.Data = s.data()
	case "Inst":
		f.Inst = s.number(huge)
	case "Round":
		f.Round = s.number(huge)
	case "Est":
		f.Est = s.runs()
	case "Aux":
		f.Aux = s.runs()
	case "Done":
		f.Done = s.vector()
	case "Held":
		f.Held = s.vector()
	}
}

// toldGet goes through the errors in the order in which the chapter names them.
func toldGet(b []byte) (api.Frame, api.Errno) {
	if len(b) < 4 {
		return api.Frame{}, api.ErrShort
	}
	ahead, sum := b[:len(b)-4], b[len(b)-4:]
	if crc32.ChecksumIEEE(ahead) != binary.LittleEndian.Uint32(sum) {
		return api.Frame{}, api.ErrSum
	}
	s := &scan{rest: ahead}
	told := s.number(huge)
	if s.err != 0 {
		return api.Frame{}, s.err
	}
	if uint64(len(s.rest)+4) < told {
		return api.Frame{}, api.ErrShort
	}
	if uint64(len(s.rest)+4) > told {
		return api.Frame{}, api.ErrLong
	}
	if len(s.rest) < 4 {
		return api.Frame{}, api.ErrShort
	}
	if s.rest[0] != 1 {
		return api.Frame{}, api.ErrForm
	}
	names, ok := toldFields()[s.rest[1]]
	if !ok {
		return api.Frame{}, api.ErrKind
	}
	f := api.Frame{Head: api.Head{Kind: s.rest[1], From: s.rest[2], To: s.rest[3]}}
	s.rest = s.rest[4:]
	for _, name := range strings.Fields(names) {
		s.field(&f, name)
	}
	switch {
	case s.err != 0:
		return api.Frame{}, s.err
	case len(s.rest) > 0:
		return api.Frame{}, api.ErrLong
	case !toldMay(f):
		return api.Frame{}, api.ErrForm
	}
	return f, api.OK
}

// same holds frames against each other, no list and an empty one being the same.
func same(a, b api.Frame) bool {
	return a.Head == b.Head && a.ID == b.ID && a.Seq == b.Seq && a.At == b.At && a.Of == b.Of &&
		a.Size == b.Size && a.Inst == b.Inst && a.Round == b.Round && slices.Equal(a.Est, b.Est) &&
		slices.Equal(a.Aux, b.Aux) && slices.Equal(a.Done, b.Done) && slices.Equal(a.Held, b.Held) &&
		bytes.Equal(a.Data, b.Data)
}

// wantPutAsTold holds May and Put against what the chapter says, and goes there and back.
func wantPutAsTold(t *testing.T, name string, f api.Frame) {
	t.Helper()
	may := toldMay(f)
	if got := wire.May(f); got != may {
		t.Errorf("%s: May = %v (%d runs, %d numbers, %d bytes: %v)", name, got, len(f.Est)+len(f.Aux), len(f.Done)+len(f.Held), len(f.Data), f.Head)
	}
	b, err := wire.Put(f)
	if !may {
		if err != api.ErrArg || len(b) != 0 {
			t.Errorf("%s: Put of what may not be = %d bytes, %v", name, len(b), err)
		}
		return
	}
	if want := toldBytes(f); err != api.OK || !bytes.Equal(b, want) {
		t.Errorf("%s: Put = %v, %v, want %v", name, b, err, want)
	}
	if back, err := wire.Get(b); err != api.OK || !same(back, f) {
		t.Errorf("%s: there and back is %v, %v, want %v", name, back, err, f)
	}
}

// wantGetAsTold holds Get against what the chapter says; what is read must be put as it stood.
func wantGetAsTold(t *testing.T, name string, b []byte) {
	t.Helper()
	want, wantErr := toldGet(b)
	f, err := wire.Get(b)
	if err != wantErr || !same(f, want) {
		t.Errorf("%s: Get(%v) = %v, %v, want %v, %v", name, b, f, err, want, wantErr)
	}
	if err != api.OK {
		return
	}
	if back, err := wire.Put(f); err != api.OK || !bytes.Equal(back, b) {
		t.Errorf("%s: %v is read, and put as %v, %v", name, b, back, err)
	}
}

// wantErr asks for this error, whatever toldGet makes of it.
func wantErr(t *testing.T, name string, b []byte, want api.Errno) {
	t.Helper()
	if f, err := wire.Get(b); err != want || !reflect.DeepEqual(f, api.Frame{}) {
		t.Errorf("%s: Get = %v, %v, want %v", name, f, err, want)
	}
	wantGetAsTold(t, name, b)
}

// written is a frame, and what its bytes are between the first number and the sum.
type written struct {
	f     api.Frame
	inner []byte
}

// samples are a frame of each Kind, in the order of the Kinds.
func samples() []written {
	return []written{
		{api.Frame{Head: head(api.KindChunk), Seq: 1, ID: id(2, 4), At: 1, Of: 3, Size: 9, Data: []byte("abc")},
			[]byte{1, 1, 3, 5, 1, 1, 1, 2, 1, 4, 1, 1, 1, 3, 1, 9, 1, 3, 'a', 'b', 'c'}},
		{api.Frame{Head: head(api.KindAck), Seq: 1 << 40},
			[]byte{1, 2, 3, 5, 6, 0, 0, 0, 0, 0, 1}},
		{api.Frame{Head: head(api.KindAsk), ID: id(63, 1), At: 7},
			[]byte{1, 3, 3, 5, 1, 63, 1, 1, 1, 7}},
		{api.Frame{Head: head(api.KindReply), ID: id(0, 260), At: 255, Of: 256, Size: 300, Data: []byte{0}},
			[]byte{1, 4, 3, 5, 0, 2, 4, 1, 1, 255, 2, 0, 1, 2, 44, 1, 1, 1, 0}},
		{api.Frame{Head: head(api.KindBeat), Seq: 255},
			[]byte{1, 5, 3, 5, 1, 255}},
		{api.Frame{Head: head(api.KindPhase1), Inst: 1, Round: 0, Est: []api.Run{run(0, 1, 2), run(2, 300, 1)}},
			[]byte{1, 6, 3, 5, 1, 1, 0, 1, 2, 0, 1, 1, 1, 2, 1, 2, 2, 44, 1, 1, 1}},
		{api.Frame{Head: head(api.KindPhase2), Inst: 258, Round: 9, Est: []api.Run{run(0, 1, 2)}, Aux: []api.Run{run(63, 5, 1)}},
			[]byte{1, 7, 3, 5, 2, 2, 1, 1, 9, 1, 1, 0, 1, 1, 1, 2, 1, 1, 1, 63, 1, 5, 1, 1}},
		{api.Frame{Head: head(api.KindDecide), Inst: 3, Est: []api.Run{run(1, 7, 1)}},
			[]byte{1, 8, 3, 5, 1, 3, 1, 1, 1, 1, 1, 7, 1, 1}},
		{api.Frame{Head: head(api.KindStable), Inst: 0, Done: []uint64{1, 2}, Held: []uint64{0, 300, 4}},
			[]byte{1, 9, 3, 5, 0, 1, 2, 1, 1, 1, 2, 1, 3, 0, 2, 44, 1, 1, 4}},
		{api.Frame{Head: head(api.KindCredit), Seq: 1 << 62},
			[]byte{1, 10, 3, 5, 8, 0, 0, 0, 0, 0, 0, 0, 64}},
	}
}

func sample(kind uint8) api.Frame { return samples()[kind-1].f }

func TestExample(t *testing.T) { // P6.1, P6.2
	f := api.Frame{Head: api.Head{Kind: api.KindBeat, From: 0, To: 1}}
	b, err := wire.Put(f)
	front := []byte{1, 9, 1, 5, 0, 1, 0}
	if err != api.OK || !wire.May(f) || len(b) != 11 || !bytes.Equal(b[:7], front) {
		t.Fatalf("Put = %v, %v", b, err)
	}
	if sum := binary.LittleEndian.Uint32(b[7:]); sum != crc32.ChecksumIEEE(front) {
		t.Errorf("the sum is %#x", sum)
	}
	if back, err := wire.Get(b); err != api.OK || !same(back, f) {
		t.Errorf("Get = %v, %v", back, err)
	}
}

func TestBytesOfEachKind(t *testing.T) { // P6.1, P6.2
	for i, c := range samples() {
		if int(c.f.Kind) != i+1 || !wire.May(c.f) {
			t.Errorf("%v may not be", c.f)
		}
		want := framed(c.inner...)
		if b, err := wire.Put(c.f); err != api.OK || !bytes.Equal(b, want) {
			t.Errorf("Put(%v) = %v, %v, want %v", c.f, b, err, want)
		}
		if f, err := wire.Get(want); err != api.OK || !same(f, c.f) {
			t.Errorf("Get(%v) = %v, %v, want %v", want, f, err, c.f)
		}
	}
}

func TestFieldsOfNoughts(t *testing.T) { // P6.1, P6.2: the least that may be, of each Kind
	for kind, f := range map[uint8]api.Frame{
		api.KindChunk:  {ID: id(0, 1), Of: 1},
		api.KindAck:    {},
		api.KindAsk:    {ID: id(0, 1)},
		api.KindReply:  {ID: id(0, 1), Of: 1},
		api.KindBeat:   {},
		api.KindPhase1: {Inst: 1},
		api.KindPhase2: {Inst: 1},
		api.KindDecide: {Inst: 1, Est: []api.Run{run(0, 1, 1)}},
		api.KindStable: {},
		api.KindCredit: {},
	} {
		f.Head = head(kind)
		if !wire.May(f) {
			t.Errorf("May(%v) = false", f)
		}
		wantPutAsTold(t, "noughts", f)
		f.Est, f.Aux = append([]api.Run{}, f.Est...), []api.Run{}
		f.Done, f.Held, f.Data = []uint64{}, []uint64{}, []byte{}
		if !wire.May(f) { // P0.5
			t.Errorf("May(%v) = false, with empty lists", f)
		}
		wantPutAsTold(t, "noughts, and empty lists", f)
	}
	bare := api.Frame{}
	if wire.May(bare) {
		t.Error("the zero frame may be")
	}
	wantPutAsTold(t, "the zero frame", bare)
}

// rows are so many runs of so many ids each, with gaps.
func rows(size int, count uint64) []api.Run {
	var l []api.Run
	for i := range size {
		l = append(l, run(uint8(i%api.MaxProcs), 1+uint64(i/api.MaxProcs)*(count+1), count))
	}
	slices.SortStableFunc(l, func(a, b api.Run) int { return int(a.From) - int(b.From) })
	return l
}

// bend is one thing that is done to a frame, and whether it may be then.
type bend struct {
	name string
	kind uint8
	do   func(f *api.Frame)
	want bool
}

func headBends() []bend {
	return []bend{
		{"From 63", api.KindBeat, func(f *api.Frame) { f.From = 63 }, true},
		{"From 64", api.KindBeat, func(f *api.Frame) { f.From = 64 }, false},
		{"From 255", api.KindBeat, func(f *api.Frame) { f.From = 255 }, false},
		{"To 63", api.KindBeat, func(f *api.Frame) { f.To = 63 }, true},
		{"To 64", api.KindBeat, func(f *api.Frame) { f.To = 64 }, false},
		{"To 255", api.KindBeat, func(f *api.Frame) { f.To = 255 }, false},
		{"To the same", api.KindBeat, func(f *api.Frame) { f.To = f.From }, false},
		{"From 0 to 0", api.KindChunk, func(f *api.Frame) { f.From, f.To = 0, 0 }, false},
		{"63 to 63", api.KindStable, func(f *api.Frame) { f.From, f.To = 63, 63 }, false},
		{"63 to 0", api.KindStable, func(f *api.Frame) { f.From, f.To = 63, 0 }, true},
		{"0 to 63", api.KindDecide, func(f *api.Frame) { f.From, f.To = 0, 63 }, true},
	}
}

func numberBends() []bend {
	var l []bend
	for _, kind := range []uint8{api.KindChunk, api.KindAck, api.KindBeat, api.KindCredit} {
		for n, want := range map[uint64]bool{0: true, 1: true, lastSeq: true, lastSeq + 1: false, huge: false} {
			l = append(l, bend{"Seq", kind, func(f *api.Frame) { f.Seq = n }, want})
		}
	}
	for _, kind := range []uint8{api.KindPhase1, api.KindPhase2, api.KindDecide, api.KindStable} {
		for n, want := range map[uint64]bool{0: kind == api.KindStable, 1: true, lastSeq: true, lastSeq + 1: false, huge: false} {
			l = append(l, bend{"Inst", kind, func(f *api.Frame) { f.Inst = n }, want})
		}
	}
	for _, kind := range []uint8{api.KindPhase1, api.KindPhase2} {
		for n, want := range map[uint64]bool{0: true, 1: true, lastSeq: true, lastSeq + 1: false, huge: false} {
			l = append(l, bend{"Round", kind, func(f *api.Frame) { f.Round = n }, want})
		}
	}
	return l
}

func chunkBends() []bend {
	var l []bend
	for _, kind := range []uint8{api.KindChunk, api.KindAsk, api.KindReply} {
		for x, want := range map[api.ID]bool{id(63, 1): true, id(64, 1): false, id(255, 1): false, id(0, 0): false, id(0, lastSeq): true, id(0, lastSeq+1): false, id(0, huge): false} {
			l = append(l, bend{"ID", kind, func(f *api.Frame) { f.ID = x }, want})
		}
	}
	for _, kind := range []uint8{api.KindChunk, api.KindReply} {
		for _, c := range []struct {
			at, of uint32
			want   bool
		}{
			{0, 0, false}, {0, 1, true}, {1, 1, false}, {4, 5, true}, {5, 5, false}, {6, 5, false},
			{0, 1 << 20, true}, {1<<20 - 1, 1 << 20, true}, {1 << 20, 1 << 20, false},
			{0, 1<<20 + 1, false}, {1 << 20, 1<<20 + 1, false}, {0, math.MaxUint32, false}, {math.MaxUint32, 1, false},
		} {
			l = append(l, bend{"At and Of", kind, func(f *api.Frame) { f.At, f.Of = c.at, c.of }, c.want})
		}
		for n, want := range map[uint32]bool{0: true, api.MaxPayload: true, api.MaxPayload + 1: false, math.MaxUint32: false} {
			l = append(l, bend{"Size", kind, func(f *api.Frame) { f.Size = n }, want})
		}
		for n, want := range map[int]bool{0: true, 255: true, 256: true, api.MaxChunk: true, api.MaxChunk + 1: false, 1 << 22: false} {
			l = append(l, bend{"Data", kind, func(f *api.Frame) { f.Data = bytes.Repeat([]byte{7}, n) }, want})
		}
	}
	for n, want := range map[uint32]bool{0: true, 1<<20 - 1: true, 1 << 20: false, math.MaxUint32: false} {
		l = append(l, bend{"At, asked", api.KindAsk, func(f *api.Frame) { f.At = n }, want})
	}
	return l
}

// runLists are rows that may be, and lists that may not, of whatever Kind.
func runLists() map[string]struct {
	l    []api.Run
	want bool
} {
	return map[string]struct {
		l    []api.Run
		want bool
	}{
		"one run":                 {rows(1, 1), true},
		"64 runs":                 {rows(64, 1), true},
		"65 runs":                 {rows(65, 1), false},
		"some of one sender":      {[]api.Run{run(9, 1, 1), run(9, 3, 1), run(9, 5, 1)}, true},
		"many runs":               {rows(4000, 1), false},
		"MaxBatch ids":            {rows(64, 64), true},
		"MaxBatch in one run":     {[]api.Run{run(0, 1, 4096)}, true},
		"one id more":             {[]api.Run{run(0, 1, 4097)}, false},
		"one id more, two runs":   {[]api.Run{run(0, 1, 4096), run(1, 1, 1)}, false},
		"one id more, 64 runs":    {append(rows(63, 64), run(63, 1, 65)), false},
		"counts of 2^64 together": {[]api.Run{run(0, 1, lastSeq), run(1, 1, lastSeq), run(2, 1, lastSeq), run(3, 1, lastSeq)}, false},
		"a count of 2^64 - 1":     {[]api.Run{run(0, 1, huge)}, false},
		"a count of 0":            {[]api.Run{run(0, 1, 0)}, false},
		"a later count of 0":      {[]api.Run{run(0, 1, 1), run(1, 1, 0)}, false},
		"First of 0":              {[]api.Run{run(0, 0, 1)}, false},
		"up to MaxSeq":            {[]api.Run{run(0, lastSeq-1, 2)}, true},
		"beyond MaxSeq":           {[]api.Run{run(0, lastSeq-1, 3)}, false},
		"First beyond MaxSeq":     {[]api.Run{run(0, lastSeq+1, 1)}, false},
		"of 63":                   {[]api.Run{run(63, 1, 1)}, true},
		"of 64":                   {[]api.Run{run(64, 1, 1)}, false},
		"falling":                 {[]api.Run{run(1, 1, 1), run(0, 1, 1)}, false},
		"falling, of one":         {[]api.Run{run(1, 5, 1), run(1, 1, 1)}, false},
		"one twice":               {[]api.Run{run(1, 1, 1), run(1, 1, 1)}, false},
		"no gap":                  {[]api.Run{run(1, 1, 2), run(1, 3, 1)}, false},
		"a gap":                   {[]api.Run{run(1, 1, 2), run(1, 4, 1)}, true},
	}
}

func runBends() []bend {
	var l []bend
	for name, c := range runLists() {
		for _, kind := range []uint8{api.KindPhase1, api.KindPhase2, api.KindDecide} {
			l = append(l, bend{"Est: " + name, kind, func(f *api.Frame) { f.Est = c.l }, c.want})
		}
		l = append(l, bend{"Aux: " + name, api.KindPhase2, func(f *api.Frame) { f.Aux = c.l }, c.want},
			bend{"Aux alone: " + name, api.KindPhase2, func(f *api.Frame) { f.Est, f.Aux = nil, c.l }, c.want})
	}
	for _, none := range [][]api.Run{nil, {}} {
		l = append(l, bend{"no Est", api.KindPhase1, func(f *api.Frame) { f.Est = none }, true},
			bend{"no Est", api.KindPhase2, func(f *api.Frame) { f.Est = none }, true},
			bend{"no Est", api.KindDecide, func(f *api.Frame) { f.Est = none }, false},
			bend{"no Aux", api.KindPhase2, func(f *api.Frame) { f.Aux = none }, true})
	}
	return append(l, bend{"MaxBatch ids each", api.KindPhase2, func(f *api.Frame) { f.Est, f.Aux = rows(64, 64), rows(64, 64) }, true})
}

func vectorBends() []bend {
	var l []bend
	for name, c := range map[string]struct {
		v    []uint64
		want bool
	}{
		"no number":      {nil, true},
		"an empty one":   {[]uint64{}, true},
		"64 numbers":     {make([]uint64, 64), true},
		"64 of MaxSeq":   {slices.Repeat([]uint64{lastSeq}, 64), true},
		"65 numbers":     {make([]uint64, 65), false},
		"many numbers":   {make([]uint64, 1<<20), false},
		"MaxSeq":         {[]uint64{lastSeq}, true},
		"one more":       {[]uint64{lastSeq + 1}, false},
		"one more, last": {[]uint64{0, 0, lastSeq + 1}, false},
		"2^64 - 1":       {[]uint64{huge, 0}, false},
	} {
		l = append(l, bend{"Done: " + name, api.KindStable, func(f *api.Frame) { f.Done = c.v }, c.want},
			bend{"Held: " + name, api.KindStable, func(f *api.Frame) { f.Held = c.v }, c.want},
			bend{"both: " + name, api.KindStable, func(f *api.Frame) { f.Done, f.Held = c.v, c.v }, c.want})
	}
	return l
}

func bends() []bend {
	return slices.Concat(headBends(), numberBends(), chunkBends(), runBends(), vectorBends())
}

func TestMayAtItsEdges(t *testing.T) { // P6.1, P6.2
	for _, c := range bends() {
		f := sample(c.kind)
		c.do(&f)
		if got := wire.May(f); got != c.want {
			t.Errorf("%s, Kind %d: May = %v", c.name, c.kind, got)
		}
		wantPutAsTold(t, c.name, f)
		// What may not be can be written nevertheless, and is read up to there.
		wantGetAsTold(t, c.name, toldBytes(f))
	}
}

func TestKinds(t *testing.T) { // P6.1
	for kind := range 256 {
		for _, c := range samples() {
			f := c.f
			f.Kind = uint8(kind)
			wantPutAsTold(t, "another Kind", f)
		}
		f := api.Frame{Head: head(uint8(kind))}
		wantPutAsTold(t, "a Kind alone", f)
		b := framed(1, uint8(kind), 3, 5, 0)
		if _, err := wire.Get(b); (err == api.ErrKind) != (kind < 1 || kind > 10) {
			t.Errorf("Kind %d: Get = %v", kind, err)
		}
		wantGetAsTold(t, "a Kind, and a nought", b)
	}
}

func TestFieldsOfOtherKinds(t *testing.T) { // P6.1
	fills := map[string]func(f *api.Frame){
		"Seq":   func(f *api.Frame) { f.Seq = 1 },
		"ID":    func(f *api.Frame) { f.ID = id(1, 1) },
		"At":    func(f *api.Frame) { f.At = 1 },
		"Of":    func(f *api.Frame) { f.Of = 1000 },
		"Size":  func(f *api.Frame) { f.Size = 1 },
		"Data":  func(f *api.Frame) { f.Data = []byte{0} },
		"Inst":  func(f *api.Frame) { f.Inst = 1 },
		"Round": func(f *api.Frame) { f.Round = 1 },
		"Est":   func(f *api.Frame) { f.Est = rows(1, 1) },
		"Aux":   func(f *api.Frame) { f.Aux = rows(1, 1) },
		"Done":  func(f *api.Frame) { f.Done = []uint64{0} },
		"Held":  func(f *api.Frame) { f.Held = []uint64{0} },
	}
	for _, c := range samples() {
		own := strings.Fields(toldFields()[c.f.Kind])
		for _, name := range allFields() {
			f := c.f
			fills[name](&f)
			if wire.May(f) != slices.Contains(own, name) {
				t.Errorf("Kind %d, %s: May = %v", f.Kind, name, wire.May(f))
			}
			wantPutAsTold(t, name, f)
		}
	}
	for x, want := range map[api.ID]bool{id(1, 0): false, id(0, 1): false, id(0, 0): true} {
		if f := (api.Frame{Head: head(api.KindBeat), ID: x}); wire.May(f) != want {
			t.Errorf("a beat with %v: May = %v", x, !want)
		}
	}
}

func TestBytesThatAreNone(t *testing.T) { // P6.1: the sum's errors, the first number's, how many follow, and the four bytes
	text := func(s string) []byte { return marked([]byte(s)) }
	good := []byte{1, 9, 1, 5, 0, 1, 0}
	for name, c := range map[string]struct {
		b    []byte
		want api.Errno
	}{
		"nil":                           {nil, api.ErrShort},
		"empty":                         {[]byte{}, api.ErrShort},
		"one byte":                      {[]byte{0}, api.ErrShort},
		"three bytes":                   {[]byte{0, 0, 0}, api.ErrShort},
		"four that aren't the sum":      {[]byte{1, 2, 3, 4}, api.ErrSum},
		"no sum":                        {good, api.ErrSum},
		"the sum the other way round":   {binary.BigEndian.AppendUint32(bytes.Clone(good), crc32.ChecksumIEEE(good)), api.ErrSum},
		"a wrong sum, and no number":    {[]byte{9, 0, 0, 0, 0}, api.ErrSum},
		"the sum of nothing":            {[]byte{0, 0, 0, 0}, api.ErrShort},
		"a first number of 9 bytes":     {text("\x09"), api.ErrForm},
		"of 255 bytes":                  {text("\xff\x01\x05\x00\x01\x00"), api.ErrForm},
		"a first number that ends":      {text("\x02\x09"), api.ErrShort},
		"one with a nought ahead":       {text("\x02\x09\x00\x01\x05\x00\x01\x00"), api.ErrForm},
		"one that is 0 in a byte":       {text("\x01\x00\x01\x05\x00\x01\x00"), api.ErrForm},
		"one more":                      {text("\x01\x0a\x01\x05\x00\x01\x00"), api.ErrShort},
		"one less":                      {text("\x01\x08\x01\x05\x00\x01\x00"), api.ErrLong},
		"without the sum":               {text("\x01\x05\x01\x05\x00\x01\x00"), api.ErrLong},
		"0":                             {text("\x00\x01\x05\x00\x01\x00"), api.ErrLong},
		"0 and nothing":                 {text("\x00"), api.ErrLong},
		"2^64 - 1":                      {text("\x08\xff\xff\xff\xff\xff\xff\xff\xff\x01\x05\x00\x01\x00"), api.ErrShort},
		"2^63":                          {text("\x08\x00\x00\x00\x00\x00\x00\x00\x80"), api.ErrShort},
		"2^32 and 9":                    {text("\x05\x09\x00\x00\x00\x01\x01\x05\x00\x01\x00"), api.ErrShort},
		"2^64 - 4, that wraps to none":  {text("\x08\xfc\xff\xff\xff\xff\xff\xff\xff"), api.ErrShort},
		"no byte between":               {framed(), api.ErrShort},
		"one byte between":              {framed(1), api.ErrShort},
		"three bytes between":           {framed(1, 5, 0), api.ErrShort},
		"three, of no Version":          {framed(2, 5, 0), api.ErrShort},
		"one more, and three between":   {text("\x01\x08\x01\x05\x00"), api.ErrShort},
		"one less, and three between":   {text("\x01\x06\x01\x05\x00"), api.ErrLong},
		"one less, and no Version":      {text("\x01\x08\x02\x05\x00\x01\x00"), api.ErrLong},
		"one more, and no Version":      {text("\x01\x0a\x02\x05\x00\x01\x00"), api.ErrShort},
		"another Version":               {framed(2, 5, 0, 1, 0), api.ErrForm},
		"Version 0":                     {framed(0, 5, 0, 1, 0), api.ErrForm},
		"Version 255":                   {framed(255, 5, 0, 1, 0), api.ErrForm},
		"another Version, and no Kind":  {framed(2, 11, 0, 1, 0), api.ErrForm},
		"another Version, and no field": {framed(2, 5, 0, 1), api.ErrForm},
		"Kind 0":                        {framed(1, 0, 0, 1, 0), api.ErrKind},
		"Kind 11":                       {framed(1, 11, 0, 1, 0), api.ErrKind},
		"Kind 255":                      {framed(1, 255, 0, 1), api.ErrKind},
		"no Kind, and no field":         {framed(1, 11, 0, 1), api.ErrKind},
		"no Kind, and a bad number":     {framed(1, 11, 0, 1, 9), api.ErrKind},
		"no Kind, and From is To":       {framed(1, 0, 1, 1, 0), api.ErrKind},
	} {
		wantErr(t, name, c.b, c.want)
	}
}

// inner is Version, a head and the bytes of fields.
func inner(kind uint8, fields ...[]byte) []byte {
	return framed(append([]byte{1, kind, 3, 5}, bytes.Join(fields, nil)...)...)
}

func TestErrorsOfFields(t *testing.T) { // P6.1
	n := numbers
	no := []byte{9}            // no number's first byte
	nought := []byte{2, 1, 0}  // a number with a nought ahead
	cut := []byte{8, 1, 1}     // a number that ends too early
	big32 := n(math.MaxUint32) // the greatest that At, Of and Size are read as
	above := n(1 << 32)        // one more
	row := []byte{1, 2, 'a', 'b'}
	for name, c := range map[string]struct {
		b    []byte
		want api.Errno
	}{
		"no Seq":                        {inner(api.KindBeat), api.ErrShort},
		"a Seq of 9 bytes":              {inner(api.KindBeat, no), api.ErrForm},
		"a Seq that ends":               {inner(api.KindBeat, cut), api.ErrShort},
		"a Seq with a nought":           {inner(api.KindBeat, nought), api.ErrForm},
		"a Seq above MaxSeq":            {inner(api.KindBeat, n(lastSeq+1)), api.ErrForm},
		"a Seq of 2^64 - 1":             {inner(api.KindBeat, n(huge)), api.ErrForm},
		"bytes left":                    {inner(api.KindBeat, n(0, 0)), api.ErrLong},
		"bytes left that are no number": {inner(api.KindBeat, n(0), no), api.ErrLong},
		"bytes left, and may not be":    {inner(api.KindBeat, n(huge, 0)), api.ErrLong},
		"bytes left, and From is To":    {framed(1, 5, 1, 1, 0, 0), api.ErrLong},
		"From is To":                    {framed(1, 5, 1, 1, 0), api.ErrForm},
		"From of 64":                    {framed(1, 5, 64, 1, 0), api.ErrForm},
		"To of 64":                      {framed(1, 5, 1, 64, 0), api.ErrForm},
		"From is To, and no Seq":        {framed(1, 5, 1, 1), api.ErrShort},

		"an ID's From of 255":          {inner(api.KindAsk, n(255, 1, 0)), api.ErrForm},
		"an ID's From of 64":           {inner(api.KindAsk, n(64, 1, 0)), api.ErrForm},
		"an ID's From of 256":          {inner(api.KindAsk, n(256, 1, 0)), api.ErrRange},
		"of 2^64 - 1":                  {inner(api.KindAsk, n(huge, 1, 0)), api.ErrRange},
		"of 256, and nothing":          {inner(api.KindAsk, n(256)), api.ErrRange},
		"of 256, and no number":        {inner(api.KindAsk, n(256), no), api.ErrRange},
		"an ID's Seq of 0":             {inner(api.KindAsk, n(1, 0, 0)), api.ErrForm},
		"an ID's Seq above MaxSeq":     {inner(api.KindAsk, n(1, lastSeq+1, 0)), api.ErrForm},
		"an ID without Seq":            {inner(api.KindAsk, n(1)), api.ErrShort},
		"At of 2^20, asked":            {inner(api.KindAsk, n(1, 1, 1<<20)), api.ErrForm},
		"At of 2^32 - 1, asked":        {inner(api.KindAsk, n(1, 1), big32), api.ErrForm},
		"At of 2^32, asked":            {inner(api.KindAsk, n(1, 1), above), api.ErrRange},
		"At of 2^32, and bytes left":   {inner(api.KindAsk, n(1, 1), above, n(0)), api.ErrRange},
		"At of 2^32, and ID may not":   {inner(api.KindAsk, n(64, 0), above), api.ErrRange},
		"At of 2^64 - 1, asked":        {inner(api.KindAsk, n(1, 1, huge)), api.ErrRange},
		"a wrong Seq, and From of 256": {inner(api.KindChunk, no, n(256, 1, 0, 1, 0), row), api.ErrForm},

		"At is Of":                      {inner(api.KindReply, n(1, 1, 3, 3, 0), row), api.ErrForm},
		"At of 2^32":                    {inner(api.KindReply, n(1, 1), above, n(1, 0), row), api.ErrRange},
		"Of of 2^32":                    {inner(api.KindReply, n(1, 1, 0), above, n(0), row), api.ErrRange},
		"Of of 2^32 and one":            {inner(api.KindReply, n(1, 1, 0, 1<<32+1, 0), row), api.ErrRange},
		"Of of 2^32 - 1":                {inner(api.KindReply, n(1, 1, 0), big32, n(0), row), api.ErrForm},
		"Of of 2^20 and one":            {inner(api.KindReply, n(1, 1, 0, 1<<20+1, 0), row), api.ErrForm},
		"Size of 2^32":                  {inner(api.KindReply, n(1, 1, 0, 1), above, row), api.ErrRange},
		"Size of 2^32 - 1":              {inner(api.KindReply, n(1, 1, 0, 1), big32, row), api.ErrForm},
		"Size of 2^20 and one":          {inner(api.KindReply, n(1, 1, 0, 1, 1<<20+1), row), api.ErrForm},
		"Size of 2^32, and At is Of":    {inner(api.KindReply, n(1, 1, 1, 1), above, row), api.ErrRange},
		"no Data":                       {inner(api.KindReply, n(1, 1, 0, 1, 2)), api.ErrShort},
		"Data that ends":                {inner(api.KindReply, n(1, 1, 0, 1, 2), []byte{1, 3, 'a', 'b'}), api.ErrShort},
		"Data with bytes left":          {inner(api.KindReply, n(1, 1, 0, 1, 2), []byte{1, 1, 'a', 'b'}), api.ErrLong},
		"Data's length of 9 bytes":      {inner(api.KindReply, n(1, 1, 0, 1, 2), no), api.ErrForm},
		"Data's length with a nought":   {inner(api.KindReply, n(1, 1, 0, 1, 2), nought, row), api.ErrForm},
		"Data's length that ends":       {inner(api.KindReply, n(1, 1, 0, 1, 2), cut), api.ErrShort},
		"Data above MaxChunk":           {inner(api.KindReply, n(1, 1, 0, 1, 2, api.MaxChunk+1), make([]byte, api.MaxChunk+1)), api.ErrLong},
		"above MaxChunk, and nothing":   {inner(api.KindReply, n(1, 1, 0, 1, 2, api.MaxChunk+1)), api.ErrLong},
		"MaxChunk, and nothing":         {inner(api.KindReply, n(1, 1, 0, 1, 2, api.MaxChunk)), api.ErrShort},
		"MaxChunk, and one byte left":   {inner(api.KindReply, n(1, 1, 0, 1, 2, api.MaxChunk), make([]byte, api.MaxChunk+1)), api.ErrLong},
		"Data of 2^64 - 1 bytes":        {inner(api.KindReply, n(1, 1, 0, 1, 2, huge)), api.ErrLong},
		"Data above MaxChunk, At is Of": {inner(api.KindReply, n(1, 1, 1, 1, 2, api.MaxChunk+1)), api.ErrLong},

		"no count of runs":          {inner(api.KindPhase1, n(1, 0)), api.ErrShort},
		"a count of 9 bytes":        {inner(api.KindPhase1, n(1, 0), no), api.ErrForm},
		"64 runs, and nothing":      {inner(api.KindPhase1, n(1, 0, 64)), api.ErrShort},
		"65 runs, and nothing":      {inner(api.KindPhase1, n(1, 0, 65)), api.ErrRange},
		"65 runs":                   {inner(api.KindPhase1, n(1, 0), toldRunBytes(rows(65, 1))), api.ErrRange},
		"2^64 - 1 runs":             {inner(api.KindPhase1, n(1, 0, huge)), api.ErrRange},
		"fewer runs than told":      {inner(api.KindPhase1, n(1, 0, 2, 0, 1, 1)), api.ErrShort},
		"more runs than told":       {inner(api.KindPhase1, n(1, 0, 1, 0, 1, 1, 1, 1, 1)), api.ErrLong},
		"a run that ends":           {inner(api.KindPhase1, n(1, 0, 1, 0, 1)), api.ErrShort},
		"a run's From of 64":        {inner(api.KindPhase1, n(1, 0, 1, 64, 1, 1)), api.ErrForm},
		"a run's From of 255":       {inner(api.KindPhase1, n(1, 0, 1, 255, 1, 1)), api.ErrForm},
		"a run's From of 256":       {inner(api.KindPhase1, n(1, 0, 1, 256, 1, 1)), api.ErrRange},
		"a later From of 256":       {inner(api.KindPhase1, n(1, 0, 2, 0, 1, 1, 256, 1, 1)), api.ErrRange},
		"From of 256, and nothing":  {inner(api.KindPhase1, n(1, 0, 1, 256)), api.ErrRange},
		"runs that aren't rows":     {inner(api.KindPhase1, n(1, 0, 2, 0, 1, 1, 0, 2, 1)), api.ErrForm},
		"a run of no id":            {inner(api.KindPhase1, n(1, 0, 1, 0, 1, 0)), api.ErrForm},
		"a run of 2^64 - 1 ids":     {inner(api.KindPhase1, n(1, 0, 1, 0, 1, huge)), api.ErrForm},
		"4097 ids":                  {inner(api.KindPhase1, n(1, 0, 1, 0, 1, 4097)), api.ErrForm},
		"Inst of 0":                 {inner(api.KindPhase1, n(0, 0, 0)), api.ErrForm},
		"Inst of 0, and 65 runs":    {inner(api.KindPhase1, n(0, 0, 65)), api.ErrRange},
		"Round above MaxSeq":        {inner(api.KindPhase1, n(1, lastSeq+1, 0)), api.ErrForm},
		"no Aux":                    {inner(api.KindPhase2, n(1, 0, 0)), api.ErrShort},
		"65 runs of Aux":            {inner(api.KindPhase2, n(1, 0, 0, 65)), api.ErrRange},
		"a bad Est, 65 runs of Aux": {inner(api.KindPhase2, n(1, 0, 1, 0, 1), no, n(65)), api.ErrForm},
		"Aux of 256":                {inner(api.KindPhase2, n(1, 0, 0, 1, 256, 1, 1)), api.ErrRange},
		"Aux that isn't rows":       {inner(api.KindPhase2, n(1, 0, 0, 1, 0, 0, 1)), api.ErrForm},
		"a decision of none":        {inner(api.KindDecide, n(1, 0)), api.ErrForm},
		"a decision with a Round":   {inner(api.KindDecide, n(1, 0, 1, 0, 1, 1)), api.ErrLong},
		"a decision of Inst 0":      {inner(api.KindDecide, n(0, 1, 0, 1, 1)), api.ErrForm},
		"no Done":                   {inner(api.KindStable, n(0)), api.ErrShort},
		"no Held":                   {inner(api.KindStable, n(0, 0)), api.ErrShort},
		"65 numbers of Done":        {inner(api.KindStable, n(0, 65), make([]byte, 65), n(0)), api.ErrRange},
		"65 of Done, and nothing":   {inner(api.KindStable, n(0, 65)), api.ErrRange},
		"64 of Done, and nothing":   {inner(api.KindStable, n(0, 64)), api.ErrShort},
		"65 numbers of Held":        {inner(api.KindStable, n(0, 0, 65), make([]byte, 65)), api.ErrRange},
		"2^64 - 1 numbers of Held":  {inner(api.KindStable, n(0, 0, huge)), api.ErrRange},
		"fewer of Held than told":   {inner(api.KindStable, n(0, 0, 2, 7)), api.ErrShort},
		"more of Held than told":    {inner(api.KindStable, n(0, 0, 1, 7, 7)), api.ErrLong},
		"Done above MaxSeq":         {inner(api.KindStable, n(0, 1, lastSeq+1, 0)), api.ErrForm},
		"Held above MaxSeq":         {inner(api.KindStable, n(0, 0, 1, lastSeq+1)), api.ErrForm},
		"a number of Done of 9":     {inner(api.KindStable, n(0, 1), no, n(65)), api.ErrForm},
		"Done above, 65 of Held":    {inner(api.KindStable, n(0, 1, huge, 65)), api.ErrRange},
		"Inst above MaxSeq, stable": {inner(api.KindStable, n(lastSeq+1, 0, 0)), api.ErrForm},
	} {
		wantErr(t, name, c.b, c.want)
	}
}

func TestBytesCutOff(t *testing.T) { // P6.1, P6.2
	for _, c := range samples() {
		whole := framed(c.inner...)
		for size := range whole {
			want := api.ErrSum
			if size < 4 {
				want = api.ErrShort
			}
			wantErr(t, "cut off behind", whole[:size], want)
			if size < len(whole)-4 {
				wantErr(t, "cut off, and marked", marked(whole[:size]), api.ErrShort)
			}
			if size > 0 {
				wantGetAsTold(t, "cut off ahead", marked(whole[size:]))
			}
		}
		for size := range c.inner {
			wantErr(t, "cut off, marked and told", framed(c.inner[:size]...), api.ErrShort)
		}
		for _, more := range [][]byte{{0}, {1, 1}, {9}, c.inner} {
			wantErr(t, "more behind the sum", append(bytes.Clone(whole), more...), api.ErrSum)
			wantErr(t, "more, marked", marked(append(bytes.Clone(whole), more...)), api.ErrLong)
			wantErr(t, "more, marked and told", framed(append(bytes.Clone(c.inner), more...)...), api.ErrLong)
		}
		wantErr(t, "marked twice", marked(whole), api.ErrLong)
	}
}

// turned is b with bits turned from one on, a byte's lowest bit being its first;
// what would lie behind the end is left.
func turned(b []byte, from int, pattern uint32) []byte {
	b = bytes.Clone(b)
	for i := range 32 {
		if at := from + i; pattern>>i&1 == 1 && at < 8*len(b) {
			b[at/8] ^= 1 << (at % 8)
		}
	}
	return b
}

func TestTurnedBits(t *testing.T) { // P6.2
	dice := rand.New(rand.NewSource(6))
	for _, c := range samples() {
		whole := framed(c.inner...)
		for from := range 8 * len(whole) {
			patterns := []uint32{1, 3, 1<<31 | 1, math.MaxUint32, 1<<7 | 1, 1<<8 | 1, 0x5555_5555, 0xedb8_8321}
			for range 12 {
				patterns = append(patterns, dice.Uint32()|1)
			}
			for _, pattern := range patterns {
				if f, err := wire.Get(turned(whole, from, pattern)); err != api.ErrSum || !same(f, api.Frame{}) {
					t.Fatalf("%v, turned from %d on by %#x: %v, %v", whole, from, pattern, f, err)
				}
			}
		}
	}
	long := sample(api.KindChunk)
	long.Data = bytes.Repeat([]byte("turn"), api.MaxChunk/4)
	whole := toldBytes(long)
	for range 300 {
		from, pattern := dice.Intn(8*len(whole)), dice.Uint32()|1
		if _, err := wire.Get(turned(whole, from, pattern)); err != api.ErrSum {
			t.Fatalf("a long frame, turned from %d on by %#x: %v", from, pattern, err)
		}
	}
}

func pick[T any](dice *rand.Rand, l []T) T { return l[dice.Intn(len(l))] }

func TestBytesWithOneThingWrong(t *testing.T) { // P6.1, P6.2: a frame has one writing
	dice := rand.New(rand.NewSource(7))
	few := []byte{0, 1, 2, 3, 4, 8, 9, 63, 64, 65, 255}
	for _, c := range samples() {
		for at := range c.inner {
			for x := range 256 {
				b := bytes.Clone(c.inner)
				b[at] = byte(x)
				wantGetAsTold(t, "a byte is another one", framed(b...))
			}
			wantGetAsTold(t, "a byte lacks", framed(slices.Delete(bytes.Clone(c.inner), at, at+1)...))
			for _, x := range few {
				wantGetAsTold(t, "a byte more", framed(slices.Insert(bytes.Clone(c.inner), at, x)...))
			}
		}
		for range 3000 {
			b := bytes.Clone(c.inner)
			for range 1 + dice.Intn(4) {
				at := dice.Intn(len(b))
				switch dice.Intn(3) {
				case 0:
					b[at] = pick(dice, few)
				case 1:
					b = slices.Insert(b, at, pick(dice, few))
				case 2:
					b = append(slices.Delete(b, at, at+1), pick(dice, few))
				}
			}
			wantGetAsTold(t, "some bytes are others", framed(b...))
		}
	}
}

// edges are numbers at and beside those that the chapter names.
func edges() []uint64 {
	return []uint64{0, 1, 2, 255, 256, 4096, 4097, 1<<20 - 1, 1 << 20, 1<<20 + 1, math.MaxUint32, lastSeq - 1, lastSeq, lastSeq + 1, huge}
}

func someRuns(dice *rand.Rand) []api.Run {
	if dice.Intn(3) == 0 {
		return rows(dice.Intn(67), uint64(dice.Intn(70)))
	}
	l := make([]api.Run, dice.Intn(4))
	for i := range l {
		l[i] = run(uint8(i+dice.Intn(2)), pick(dice, edges()), pick(dice, []uint64{0, 1, 2, 4095, 4096}))
	}
	return l
}

func someVector(dice *rand.Rand) []uint64 {
	v := make([]uint64, pick(dice, []int{0, 1, 2, 63, 64, 65}))
	for i := range v {
		v[i] = uint64(dice.Intn(300))
	}
	if len(v) > 0 && dice.Intn(2) == 0 {
		v[dice.Intn(len(v))] = pick(dice, edges())
	}
	return v
}

// spiced is one of the samples with some of its fields being others.
func spiced(dice *rand.Rand) api.Frame {
	f := pick(dice, samples()).f
	for range dice.Intn(4) {
		switch pick(dice, append(strings.Fields(toldFields()[f.Kind]), "From", "To")) {
		case "From":
			f.From = pick(dice, []uint8{0, 1, 5, 63, 64})
		case "To":
			f.To = pick(dice, []uint8{0, 1, 3, 63, 64})
		case "Seq":
			f.Seq = pick(dice, edges())
		case "ID":
			f.ID = id(pick(dice, []uint8{0, 1, 63, 64}), pick(dice, edges()))
		case "At":
			f.At = uint32(pick(dice, edges()))
		case "Of":
			f.Of = uint32(pick(dice, edges()))
		case "Size":
			f.Size = uint32(pick(dice, edges()))
		case "Data":
			f.Data = make([]byte, pick(dice, []int{0, 1, 255, 256, 1000, 1 << 16, 1<<16 + 1}))
			dice.Read(f.Data)
		case "Inst":
			f.Inst = pick(dice, edges())
		case "Round":
			f.Round = pick(dice, edges())
		case "Est":
			f.Est = someRuns(dice)
		case "Aux":
			f.Aux = someRuns(dice)
		case "Done":
			f.Done = someVector(dice)
		case "Held":
			f.Held = someVector(dice)
		}
	}
	return f
}

func TestAnyFrames(t *testing.T) { // P6.1, P6.2
	dice := rand.New(rand.NewSource(8))
	for range 6000 {
		f := spiced(dice)
		wantPutAsTold(t, "spiced", f)
		wantGetAsTold(t, "spiced", toldBytes(f))
	}
}

func TestAnyBytes(t *testing.T) { // P6.1, P6.2
	dice := rand.New(rand.NewSource(9))
	for range 20000 {
		b := make([]byte, dice.Intn(40))
		for i := range b {
			b[i] = byte(dice.Intn(pick(dice, []int{2, 4, 12, 256})))
		}
		wantGetAsTold(t, "bytes", b)
		wantGetAsTold(t, "marked bytes", marked(b))
		wantGetAsTold(t, "marked and told", framed(b...))
		wantGetAsTold(t, "of this Version", framed(append([]byte{1, byte(1 + dice.Intn(10)), 0, 1}, b...)...))
	}
}

// copied shares no memory with the frame.
func copied(f api.Frame) api.Frame {
	f.Est, f.Aux, f.Data = slices.Clone(f.Est), slices.Clone(f.Aux), slices.Clone(f.Data)
	f.Done, f.Held = slices.Clone(f.Done), slices.Clone(f.Held)
	return f
}

// roomy is the frame with lists that are the front of greater ones, and these.
func roomy(f api.Frame) (narrow, wide api.Frame) {
	wide = f
	wide.Est, wide.Aux = append(slices.Clone(f.Est), run(7, 7, 7)), append(slices.Clone(f.Aux), run(7, 7, 7))
	wide.Done, wide.Held = append(slices.Clone(f.Done), 7), append(slices.Clone(f.Held), 7)
	wide.Data = append(slices.Clone(f.Data), 7)
	narrow = wide
	narrow.Est, narrow.Aux = wide.Est[:len(f.Est)], wide.Aux[:len(f.Aux)]
	narrow.Done, narrow.Held = wide.Done[:len(f.Done)], wide.Held[:len(f.Held)]
	narrow.Data = wide.Data[:len(f.Data)]
	return narrow, wide
}

// spoil writes into all lists of a frame, and into the room behind them.
func spoil(f api.Frame) {
	for _, l := range [][]api.Run{f.Est, f.Aux} {
		l = l[:cap(l)]
		for i := range l {
			l[i] = run(99, 99, 99)
		}
	}
	for _, v := range [][]uint64{f.Done, f.Held} {
		v = v[:cap(v)]
		for i := range v {
			v[i] = 99
		}
	}
	spoilBytes(f.Data)
}

func spoilBytes(b []byte) {
	b = b[:cap(b)]
	for i := range b {
		b[i] ^= 0xa5
	}
}

func TestWhatIsHandedInIsLeftAsItWas(t *testing.T) { // P0.4
	for _, c := range samples() {
		for _, kind := range []uint8{c.f.Kind, 0, api.KindPhase2, api.KindStable, api.KindReply} {
			narrow, wide := roomy(c.f)
			narrow.Kind = kind
			kept := copied(wide)
			wire.May(narrow)
			wire.Put(narrow)
			if !same(wide, kept) {
				t.Errorf("Kind %d: May or Put changed what was handed in: %v, want %v", kind, wide, kept)
			}
		}
		room := append(framed(c.inner...), 7, 7, 7)
		kept := bytes.Clone(room)
		for size := range room {
			wire.Get(room[:size])
			if !bytes.Equal(room, kept) {
				t.Fatalf("Get changed what was handed in: %v, want %v", room, kept)
			}
		}
	}
}

func TestAnswersAreNewMemory(t *testing.T) { // P0.4
	for _, c := range samples() {
		f, _ := roomy(c.f)
		first, _ := wire.Put(f)
		second, _ := wire.Put(f)
		spoilBytes(first)
		spoil(f)
		if !bytes.Equal(second, framed(c.inner...)) {
			t.Errorf("Put of Kind %d shares memory: %v", c.f.Kind, second)
		}
		one, _ := wire.Get(second)
		other, _ := wire.Get(second)
		spoilBytes(second)
		if !same(one, c.f) {
			t.Errorf("Get of Kind %d keeps what was handed in: %v", c.f.Kind, one)
		}
		spoil(one)
		if !same(other, c.f) {
			t.Errorf("Get of Kind %d shares memory between answers: %v", c.f.Kind, other)
		}
	}
}

func TestListsOfAnAnswerShareNoMemory(t *testing.T) { // P0.4
	f := sample(api.KindPhase2)
	back, _ := wire.Get(toldBytes(f))
	spoil(api.Frame{Est: back.Est})
	if !slices.Equal(back.Aux, f.Aux) {
		t.Errorf("Aux shares memory with Est: %v", back.Aux)
	}
	f = sample(api.KindStable)
	back, _ = wire.Get(toldBytes(f))
	spoil(api.Frame{Done: back.Done})
	if !slices.Equal(back.Held, f.Held) {
		t.Errorf("Held shares memory with Done: %v", back.Held)
	}
}

func TestAnswersHangOnArgumentsAlone(t *testing.T) { // P0.6
	for range 3 {
		for _, c := range samples() {
			wire.Get([]byte("no frame"))
			wire.Put(api.Frame{})
			wire.Get(framed(1, api.KindPhase1, 3, 5, 9))
			b, err := wire.Put(c.f)
			f, back := wire.Get(b)
			if err != api.OK || back != api.OK || !bytes.Equal(b, framed(c.inner...)) || !same(f, c.f) {
				t.Errorf("answers hang on earlier calls: %v, %v, %v, %v", b, err, f, back)
			}
		}
	}
}

func TestHugeArguments(t *testing.T) { // P0.1
	f := api.Frame{
		Head: api.Head{Kind: 255, From: 255, To: 255}, ID: id(255, huge), Seq: huge,
		At: math.MaxUint32, Of: math.MaxUint32, Size: math.MaxUint32, Inst: huge, Round: huge,
		Est: slices.Repeat([]api.Run{run(255, huge, huge)}, 1<<16), Aux: make([]api.Run, 1<<16),
		Done: slices.Repeat([]uint64{huge}, 1<<16), Held: make([]uint64, 1<<16), Data: make([]byte, 1<<24),
	}
	for kind := range 12 {
		f.Kind = uint8(kind)
		if b, err := wire.Put(f); wire.May(f) || err != api.ErrArg || len(b) != 0 {
			t.Errorf("Kind %d: Put = %d bytes, %v", kind, len(b), err)
		}
	}
	if f, err := wire.Get(make([]byte, 1<<24)); err != api.ErrSum || !same(f, api.Frame{}) {
		t.Errorf("Get of many noughts = %v, %v", f, err)
	}
	wantErr(t, "many noughts, told", framed(append([]byte{1, api.KindBeat, 3, 5}, make([]byte, 1<<20)...)...), api.ErrLong)
}

func FuzzGet(f *testing.F) { // P6.1, P6.2
	for _, c := range samples() {
		f.Add(c.inner)
	}
	f.Add([]byte{})
	f.Fuzz(func(t *testing.T, b []byte) {
		wantGetAsTold(t, "bytes", b)
		wantGetAsTold(t, "marked bytes", marked(b))
		wantGetAsTold(t, "marked and told", framed(b...))
	})
}

func FuzzPut(f *testing.F) { // P6.1, P6.2
	f.Add(uint8(1), uint8(3), uint8(5), uint64(1), uint64(4), uint32(0), uint32(1), []byte("abc"))
	f.Add(uint8(7), uint8(0), uint8(63), uint64(9), uint64(0), uint32(0), uint32(0), []byte{0, 1, 2, 1, 1, 1})
	f.Add(uint8(9), uint8(63), uint8(0), lastSeq, lastSeq+1, uint32(2), uint32(1<<20), []byte{5, 5})
	f.Fuzz(func(t *testing.T, kind, from, to uint8, one, other uint64, at, of uint32, b []byte) {
		f := api.Frame{Head: api.Head{Kind: kind, From: from, To: to}}
		for _, name := range strings.Fields(toldFields()[kind]) {
			switch name {
			case "Seq":
				f.Seq = one
			case "ID":
				f.ID = id(from/2, other)
			case "At":
				f.At = at
			case "Of":
				f.Of = of
			case "Size":
				f.Size = at / 2
			case "Data":
				f.Data = b
			case "Inst":
				f.Inst = one
			case "Round":
				f.Round = other
			case "Est":
				for i := 0; i+3 <= len(b); i += 3 {
					f.Est = append(f.Est, run(b[i], uint64(b[i+1]), uint64(b[i+2])))
				}
			case "Aux":
				f.Aux = f.Est[len(f.Est)/2:]
			case "Done":
				f.Done = append(make([]uint64, len(b)), one)
			case "Held":
				f.Held = append(make([]uint64, len(b)/2), other)
			}
		}
		wantPutAsTold(t, "a frame", f)
	})
}
