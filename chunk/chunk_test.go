package chunk_test

import (
	"bytes"
	"fmt"
	"math"
	"math/rand"
	"testing"

	"unison/api"
	"unison/chunk"
)

const (
	least    = math.MinInt
	greatest = math.MaxInt
	mega     = 1048576 // the longest payload
	sixty4   = 65536   // the longest chunk
)

// odd are numbers that are no size of a payload, no size of a chunk and no number of a chunk, by which sums and products pass a word.
var odd = []int{
	least, least + 1, least + sixty4, -1 << 62, -1 << 61, -1 << 33, -1 << 32, -1 << 31, -1 << 20, -1 << 16, -257, -256, -5, -2, -1,
	mega + 1, mega + 2, 1 << 21, 1<<31 - 1, 1 << 31, 1<<32 - 1, 1 << 32, 1<<32 + 1, 1<<32 + 5, 1 << 33,
	1 << 47, 1 << 48, 1 << 61, 1<<61 + 1, 1 << 62, 1<<62 + 1, greatest - sixty4, greatest - 1, greatest,
}

// noChunkSize are sizes that no chunk has.
var noChunkSize = append([]int{0, sixty4 + 1, sixty4 + 2, 1 << 17, mega}, odd...)

// id is one with great numbers, which needn't be one that may be.
var id = api.ID{From: 200, Seq: 1<<63 + 5}

// payload is so many bytes, of which no two chunks are alike but by chance.
func payload(size int) []byte {
	p := make([]byte, size)
	rand.New(rand.NewSource(int64(size) + 121)).Read(p)
	return p
}

// lengths are how many bytes each chunk of a payload has: chunks go off it as long as something is left.
func lengths(size, by int) []int {
	if size < 0 || size > mega || by < 1 || by > sixty4 {
		return nil
	}
	var l []int
	for size > by {
		l = append(l, by)
		size -= by
	}
	return append(l, size)
}

// countOf is how many they are, of payloads and chunks too long or too many to be gone through.
func countOf(size, by int) int {
	if size < 0 || size > mega || by < 1 || by > sixty4 {
		return 0
	}
	return max(1, int(math.Ceil(float64(size)/float64(by))))
}

func wantCount(t *testing.T, size, by, want int) {
	t.Helper()
	if got := chunk.Count(size, by); got != want {
		t.Errorf("Count(%d, %d) = %d, want %d", size, by, got, want)
	}
}

func wantLength(t *testing.T, size, by, at, want int) {
	t.Helper()
	if got := chunk.Length(size, by, at); got != want {
		t.Errorf("Length(%d, %d, %d) = %d, want %d", size, by, at, got, want)
	}
}

func wantCut(t *testing.T, p []byte, by, at int, want []byte) {
	t.Helper()
	if got, ok := chunk.Cut(p, by, at); !ok || !bytes.Equal(got, want) {
		t.Errorf("Cut(%d bytes, %d, %d) = %.99q, %v, want %.99q", len(p), by, at, got, ok, want)
	}
}

// wantNoChunk holds that a payload has no chunk of that number.
func wantNoChunk(t *testing.T, p []byte, by, at int) {
	t.Helper()
	wantLength(t, len(p), by, at, 0)
	if got, ok := chunk.Cut(p, by, at); ok || len(got) != 0 {
		t.Errorf("Cut(%d bytes, %d, %d) = %.99q, %v, want none", len(p), by, at, got, ok)
	}
}

// wantNoChunks holds that a payload has no chunk at all.
func wantNoChunks(t *testing.T, p []byte, by int) {
	t.Helper()
	wantCount(t, len(p), by, 0)
	for _, at := range append([]int{0, 1, 2, len(p), by}, odd...) {
		wantNoChunk(t, p, by, at)
	}
	if l := chunk.All(id, p, by); len(l) != 0 {
		t.Errorf("All(%d bytes, %d) = %d frames, want none", len(p), by, len(l))
	}
}

func wantFrames(t *testing.T, p []byte, by, want int) []api.Frame {
	t.Helper()
	l := chunk.All(id, p, by)
	if len(l) != want {
		t.Fatalf("All(%d bytes, %d) = %d frames, want %d", len(p), by, len(l), want)
	}
	return l
}

// wantFrame holds all of a frame's fields against what is told of a chunk.
func wantFrame(t *testing.T, f api.Frame, at, of, size int, data []byte) {
	t.Helper()
	if f.ID != id || f.At != uint32(at) || f.Of != uint32(of) || f.Size != uint32(size) || !bytes.Equal(f.Data, data) {
		t.Errorf("a frame of %v, %d of %d, size %d, %.99q; want %v, %d of %d, size %d, %.99q",
			f.ID, f.At, f.Of, f.Size, f.Data, id, at, of, size, data)
	}
	if f.Head != (api.Head{}) || f.Seq != 0 || f.Inst != 0 || f.Round != 0 || len(f.Est)+len(f.Aux)+len(f.Done)+len(f.Held) != 0 {
		t.Errorf("a frame has more than a chunk: %.300v", f)
	}
}

func wantRight(t *testing.T, f api.Frame, by, most int, want bool) {
	t.Helper()
	if got := chunk.Right(f, by, most); got != want {
		t.Errorf("Right(%d of %d, size %d, %d bytes; %d, %d) = %v, want %v", f.At, f.Of, f.Size, len(f.Data), by, most, got, want)
	}
}

// wantChunks holds all that is told of a payload's chunks against its bytes, and against one another.
func wantChunks(t *testing.T, p []byte, by int) {
	t.Helper()
	want := lengths(len(p), by)
	wantCount(t, len(p), by, len(want))
	frames := wantFrames(t, p, by, len(want))
	var cut, all []byte
	for at, n := range want {
		from := len(cut)
		wantLength(t, len(p), by, at, n)
		wantCut(t, p, by, at, p[from:from+n])
		wantFrame(t, frames[at], at, len(want), len(p), p[from:from+n])
		wantRight(t, frames[at], by, len(p), true)
		wantRight(t, frames[at], by, len(p)-1, false)
		b, _ := chunk.Cut(p, by, at)
		cut, all = append(cut, b...), append(all, frames[at].Data...)
	}
	for _, at := range []int{-1, -len(want), len(want), len(want) + 1, 2 * len(want), least, greatest} {
		wantNoChunk(t, p, by, at)
	}
	if !bytes.Equal(cut, p) || !bytes.Equal(all, p) {
		t.Fatalf("of %d bytes by %d: all chunks, one behind the other, are %d bytes (Cut) and %d bytes (All), not the payload", len(p), by, len(cut), len(all))
	}
}

func TestExample(t *testing.T) { // P12.1, P12.2
	p := []byte("abcde")
	wantCount(t, 5, 2, 3)
	for at, want := range []string{"ab", "cd", "e"} {
		wantLength(t, 5, 2, at, len(want))
		wantCut(t, p, 2, at, []byte(want))
		wantFrame(t, wantFrames(t, p, 2, 3)[at], at, 3, 5, []byte(want))
		wantRight(t, api.Frame{At: uint32(at), Of: 3, Size: 5, Data: []byte(want)}, 2, 5, true)
	}
	wantNoChunk(t, p, 2, 3)
	wantNoChunk(t, p, 2, -1)
	wantChunks(t, p, 2)
}

func TestCount(t *testing.T) { // P12.1: with the answers written out
	for _, c := range []struct{ size, by, want int }{
		{0, 1, 1}, {0, 2, 1}, {0, 65535, 1}, {0, 65536, 1},
		{1, 1, 1}, {1, 2, 1}, {1, 65536, 1},
		{2, 1, 2}, {2, 2, 1}, {2, 3, 1}, {3, 2, 2}, {4, 2, 2}, {5, 2, 3},
		{9, 10, 1}, {10, 10, 1}, {11, 10, 2}, {19, 10, 2}, {20, 10, 2}, {21, 10, 3},
		{65535, 65536, 1}, {65536, 65536, 1}, {65537, 65536, 2}, {65536, 65535, 2},
		{131071, 65536, 2}, {131072, 65536, 2}, {131073, 65536, 3},
		{1048575, 1, 1048575}, {1048576, 1, 1048576}, {1048575, 2, 524288}, {1048576, 2, 524288}, {1048576, 3, 349526},
		{983040, 65536, 15}, {983041, 65536, 16}, {1048575, 65536, 16}, {1048576, 65536, 16}, {1048576, 65535, 17}, {1048560, 65535, 16},
		{1048577, 1, 0}, {1048577, 65536, 0}, {1048577, 2, 0}, {-1, 1, 0}, {-1, 65536, 0}, {-1, 2, 0},
		{0, 0, 0}, {1, 0, 0}, {1048576, 0, 0}, {0, -1, 0}, {5, -1, 0}, {5, -5, 0}, {-5, -5, 0}, {-5, -1, 0},
		{0, 65537, 0}, {1, 65537, 0}, {1048576, 65537, 0}, {65537, 65537, 0}, {-1, 0, 0}, {1048577, 65537, 0},
	} {
		wantCount(t, c.size, c.by, c.want)
	}
}

func TestLength(t *testing.T) { // P12.1: with the answers written out
	for _, c := range []struct{ size, by, at, want int }{
		{0, 1, 0, 0}, {0, 65536, 0, 0}, {0, 1, 1, 0}, {1, 1, 0, 1}, {1, 1, 1, 0}, {1, 9, 0, 1}, {1, 65536, 0, 1},
		{9, 10, 0, 9}, {9, 10, 1, 0}, {10, 10, 0, 10}, {10, 10, 1, 0}, {11, 10, 0, 10}, {11, 10, 1, 1}, {11, 10, 2, 0},
		{19, 10, 0, 10}, {19, 10, 1, 9}, {20, 10, 1, 10}, {20, 10, 2, 0}, {21, 10, 1, 10}, {21, 10, 2, 1}, {21, 10, 3, 0},
		{5, 2, -1, 0}, {5, 2, -3, 0}, {5, 2, 3, 0}, {6, 2, 2, 2}, {6, 2, 3, 0},
		{1048576, 65536, 0, 65536}, {1048576, 65536, 15, 65536}, {1048576, 65536, 16, 0},
		{1048575, 65536, 14, 65536}, {1048575, 65536, 15, 65535}, {983041, 65536, 15, 1}, {1048576, 65535, 16, 16},
		{1048576, 1, 0, 1}, {1048576, 1, 1048575, 1}, {1048576, 1, 1048576, 0}, {1048576, 3, 349525, 1},
		{1048577, 65536, 0, 0}, {1048577, 1, 0, 0}, {-1, 1, 0, 0}, {-1, 1, -1, 0}, {-5, 2, -1, 0},
		{5, 0, 0, 0}, {5, -1, 0, 0}, {5, -1, -1, 0}, {5, 65537, 0, 0}, {0, 0, 0, 0},
	} {
		wantLength(t, c.size, c.by, c.at, c.want)
	}
}

func TestManySizes(t *testing.T) { // P12.1, P12.2: all small ones, by all small ones
	for size := range 70 {
		p := payload(size)
		for by := 1; by < 74; by++ {
			wantChunks(t, p, by)
		}
	}
	for size := -3; size < 70; size++ {
		for by := -3; by < 74; by++ {
			want := lengths(size, by)
			wantCount(t, size, by, len(want))
			for at := -3; at < 74; at++ {
				n := 0
				if at >= 0 && at < len(want) {
					n = want[at]
				}
				wantLength(t, size, by, at, n)
			}
		}
	}
}

func TestRandomSizes(t *testing.T) { // P12.1, P12.2: short and long ones
	dice := rand.New(rand.NewSource(122))
	for range 300 {
		size, by := dice.Intn(1<<dice.Intn(15)), 1+dice.Intn(1<<dice.Intn(17))
		wantChunks(t, payload(size), by)
	}
	for range 10 {
		wantChunks(t, payload(dice.Intn(mega+1)), 500+dice.Intn(sixty4-499))
	}
}

func TestAroundAChunksSize(t *testing.T) { // P12.1, P12.2: of just that, twice that, and one byte more and less
	for _, by := range []int{2, 3, 4, 7, 8, 9, 15, 16, 17, 255, 256, 257, 1000, 4096, 65534, 65535, 65536} {
		for _, c := range []struct{ size, count, last int }{
			{0, 1, 0}, {1, 1, 1}, {by - 1, 1, by - 1}, {by, 1, by}, {by + 1, 2, 1},
			{2*by - 1, 2, by - 1}, {2 * by, 2, by}, {2*by + 1, 3, 1}, {3 * by, 3, by},
		} {
			p := payload(c.size)
			wantCount(t, c.size, by, c.count)
			for at := range c.count - 1 {
				wantLength(t, c.size, by, at, by)
				wantCut(t, p, by, at, p[at*by:(at+1)*by])
			}
			wantLength(t, c.size, by, c.count-1, c.last)
			wantCut(t, p, by, c.count-1, p[c.size-c.last:])
			wantNoChunk(t, p, by, c.count)
			wantFrame(t, wantFrames(t, p, by, c.count)[c.count-1], c.count-1, c.count, c.size, p[c.size-c.last:])
			wantChunks(t, p, by)
		}
	}
}

func TestNoBytes(t *testing.T) { // P12.1, P12.2, P0.5: one chunk, of none
	for _, p := range [][]byte{nil, {}, make([]byte, 0, 9), payload(9)[4:4]} {
		for _, by := range []int{1, 2, 9, 65535, 65536} {
			wantCount(t, 0, by, 1)
			wantLength(t, 0, by, 0, 0)
			wantCut(t, p, by, 0, nil)
			wantNoChunk(t, p, by, 1)
			wantNoChunk(t, p, by, -1)
			l := wantFrames(t, p, by, 1)
			wantFrame(t, l[0], 0, 1, 0, nil)
			wantRight(t, l[0], by, 0, true)
			wantRight(t, l[0], by, -1, false)
			wantChunks(t, p, by)
		}
		for _, by := range noChunkSize {
			wantNoChunks(t, p, by)
		}
	}
}

func TestOneByte(t *testing.T) { // P12.1, P12.2
	for _, by := range []int{1, 2, 9, 65535, 65536} {
		p := []byte{7}
		wantCount(t, 1, by, 1)
		wantLength(t, 1, by, 0, 1)
		wantCut(t, p, by, 0, p)
		wantNoChunk(t, p, by, 1)
		wantFrame(t, wantFrames(t, p, by, 1)[0], 0, 1, 1, p)
		wantChunks(t, p, by)
	}
}

func TestChunksOfOneByte(t *testing.T) { // P12.1, P12.2
	for _, size := range []int{1, 2, 3, 255, 256, 257, 3000} {
		p := payload(size)
		wantCount(t, size, 1, size)
		for at, f := range wantFrames(t, p, 1, size) {
			wantLength(t, size, 1, at, 1)
			wantCut(t, p, 1, at, p[at:at+1])
			wantFrame(t, f, at, size, size, p[at:at+1])
		}
		wantNoChunk(t, p, 1, size)
		wantChunks(t, p, 1)
	}
}

func TestTheLongestPayload(t *testing.T) { // P12.1, P12.2: by chunks of many sizes
	if api.MaxPayload != mega || api.MaxChunk != sixty4 {
		t.Fatalf("MaxPayload, MaxChunk = %d, %d", api.MaxPayload, api.MaxChunk)
	}
	for _, size := range []int{mega - 1, mega} {
		p := payload(size)
		for _, by := range []int{300, 1000, 4095, 4096, 4097, 32768, 65535, 65536} {
			wantChunks(t, p, by)
		}
		for _, by := range noChunkSize {
			wantNoChunks(t, p, by)
		}
	}
}

func TestAsManyChunksAsThereMayBe(t *testing.T) { // P12.1, P12.2: the longest payload, by one byte
	p := payload(mega)
	l := wantFrames(t, p, 1, mega)
	for at, f := range l {
		if f.At != uint32(at) || f.Of != mega || f.Size != mega || len(f.Data) != 1 || f.Data[0] != p[at] {
			t.Fatalf("the chunk %d is %d of %d, size %d, %v", at, f.At, f.Of, f.Size, f.Data)
		}
		if n := chunk.Length(mega, 1, at); n != 1 {
			t.Fatalf("Length of the chunk %d = %d", at, n)
		}
		if !chunk.Right(f, 1, mega) || chunk.Right(f, 1, mega-1) || chunk.Right(f, 2, mega) {
			t.Fatalf("Right doesn't know the chunk %d", at)
		}
	}
	for _, at := range []int{0, 1, mega / 2, mega - 2, mega - 1} {
		wantCut(t, p, 1, at, p[at:at+1])
		wantFrame(t, l[at], at, mega, mega, p[at:at+1])
	}
	wantNoChunk(t, p, 1, mega)
}

func TestAPayloadThatIsTooLong(t *testing.T) { // P12.1
	for _, size := range []int{mega + 1, mega + 2, mega + sixty4, 2 * mega} {
		p := make([]byte, size)
		for _, by := range append([]int{1, 2, 4096, 65535, 65536}, noChunkSize...) {
			wantNoChunks(t, p, by)
		}
		f := api.Frame{At: 0, Of: uint32((size + sixty4 - 1) / sixty4), Size: uint32(size), Data: p[:sixty4]}
		wantRight(t, f, sixty4, size, false)
		wantRight(t, f, sixty4, greatest, false)
	}
}

func TestWrongChunkSizes(t *testing.T) { // P12.1
	for _, by := range noChunkSize {
		for _, size := range []int{0, 1, 2, 5, 65535, 65536, 65537, 70000} {
			wantNoChunks(t, make([]byte, size), by)
		}
		for of := range uint32(4) {
			for size := range uint32(4) {
				for n := range 3 {
					wantRight(t, api.Frame{Of: of, Size: size, Data: make([]byte, n)}, by, 9, false)
				}
			}
		}
	}
	wantRight(t, api.Frame{Of: 1, Size: 65537, Data: make([]byte, 65537)}, 65537, mega, false)
}

func TestOddNumbers(t *testing.T) { // P12.1, P0.1: sizes, chunks' sizes and numbers, all with one another
	some := append([]int{0, 1, 2, 3, 5, 256, 65535, 65536, 65537, 1048575, 1048576}, odd...)
	for _, size := range some {
		for _, by := range some {
			n := countOf(size, by)
			wantCount(t, size, by, n)
			for _, at := range append([]int{n - 2, n - 1, n, n + 1}, some...) {
				want := 0
				if at >= 0 && at < n {
					want = min(by, size-at*by)
				}
				wantLength(t, size, by, at, want)
			}
		}
	}
	for _, p := range [][]byte{nil, payload(1), payload(5), payload(256), payload(70000)} {
		for _, by := range []int{2, 3, 4, 256, 65536} {
			for _, at := range odd {
				wantNoChunk(t, p, by, at)
			}
		}
	}
}

func TestNumbersThatComeBackRoundAWord(t *testing.T) { // P12.1: times the chunk's size these are small again
	p := payload(40)
	for shift := 1; shift <= 16; shift++ {
		by := 1 << shift
		for _, n := range []int{0, 1, 2} {
			wantNoChunk(t, p, by, n+1<<(63-shift))
			wantNoChunk(t, p, by, n+1<<(64-shift))
			wantNoChunk(t, p, by, n-1<<(64-shift))
			wantNoChunk(t, p, by, n+1<<32)
		}
	}
}

func TestRightOfSmallFrames(t *testing.T) { // P12.1: all of them, held against all chunks of all payloads
	for by := -1; by < 5; by++ {
		for most := -1; most < 8; most++ {
			can := map[[4]int]bool{} // At, Of, Size, and how many bytes
			for size := 0; size <= most; size++ {
				for at, n := range lengths(size, by) {
					can[[4]int{at, len(lengths(size, by)), size, n}] = true
				}
			}
			for at := range 9 {
				for of := range 9 {
					for size := range 10 {
						for n := range 7 {
							f := api.Frame{At: uint32(at), Of: uint32(of), Size: uint32(size), Data: make([]byte, n)}
							wantRight(t, f, by, most, can[[4]int{at, of, size, n}])
						}
					}
				}
			}
		}
	}
}

func TestRightOfAChunk(t *testing.T) { // P12.1: by just most, by more and by less
	for _, size := range []int{0, 1, 2, 9, 10, 11, 20, 99, 65536, 65537, mega - 1, mega} {
		for _, by := range []int{1000, 10, 65536} {
			if size > 10000 && by == 10 {
				continue
			}
			for _, f := range wantFrames(t, payload(size), by, len(lengths(size, by))) {
				for _, most := range []int{size, size + 1, 2*size + 1, mega, mega + 1, 1<<32 - 1, 1 << 32, 1<<32 + 1, greatest - 1, greatest} {
					wantRight(t, f, by, most, most >= size)
				}
				for _, most := range []int{size - 1, -1, -2, -size - 1, -mega, -1 << 31, -1 << 32, least + 1, least} {
					wantRight(t, f, by, most, false)
				}
				for _, other := range noChunkSize {
					wantRight(t, f, other, mega, false)
				}
			}
		}
	}
}

func TestRightOfChunksThatAreNone(t *testing.T) { // P12.1: one field is another one
	const by = 10
	for _, size := range []int{0, 1, 9, 10, 11, 19, 20, 21, 35} {
		for _, f := range wantFrames(t, payload(size), by, len(lengths(size, by))) {
			for _, of := range []uint32{0, f.Of - 1, f.Of + 1, 2 * f.Of, f.Of + 1<<16, f.Of + 1<<31, math.MaxUint32} {
				g := f
				g.Of = of
				wantRight(t, g, by, mega, of == f.Of)
			}
			for _, at := range []uint32{f.Of, f.Of + 1, f.At + 1<<16, f.At + 1<<31, math.MaxUint32 - 1, math.MaxUint32} {
				g := f
				g.At = at
				wantRight(t, g, by, mega, false)
				g.Data = nil
				wantRight(t, g, by, mega, false)
			}
			for _, more := range []uint32{1 << 20, 1 << 21, 1 << 31, 1<<32 - 40} {
				g := f
				g.Size += more
				wantRight(t, g, by, greatest, false)
			}
			for n := range 40 {
				g := f
				g.Data = make([]byte, n)
				wantRight(t, g, by, mega, n == len(f.Data))
			}
		}
	}
	f := api.Frame{At: 1, Of: 3, Size: 5, Data: []byte("cd")}
	wantRight(t, f, 2, 5, true)
	for _, other := range []int{1, 3, 4, 5, 6, 65536} {
		wantRight(t, f, other, 5, false)
	}
	f.Size = 6
	wantRight(t, f, 2, 6, true)
	f.At = 2
	wantRight(t, f, 2, 6, true)
	f.Size = 5
	wantRight(t, f, 2, 6, false)
	f.Data = f.Data[:1]
	wantRight(t, f, 2, 6, true)
	f.Size = 7
	wantRight(t, f, 2, 7, false)
}

func TestRightAtGreatNumbers(t *testing.T) { // P12.1, P0.1
	great := []uint32{0, 1, 2, 16, 1<<16 - 1, 1 << 16, 1<<20 - 1, 1 << 20, 1<<20 + 1, 1<<31 - 1, 1 << 31, 1<<31 + 1, math.MaxUint32 - 1, math.MaxUint32}
	for _, of := range great {
		for _, at := range great {
			for _, size := range great {
				for _, data := range [][]byte{nil, make([]byte, 1), make([]byte, sixty4)} {
					f := api.Frame{At: at, Of: of, Size: size, Data: data}
					for _, by := range []int{least, -1, 0, 1, sixty4, sixty4 + 1, greatest} {
						for _, most := range []int{least, -1, 0, mega - 1, mega, mega + 1, greatest} {
							n, want := countOf(int(size), by), false
							if int(size) <= most && int(of) == n && at < of {
								want = len(data) == min(by, int(size)-int(at)*by)
							}
							wantRight(t, f, by, most, want)
						}
					}
				}
			}
		}
	}
}

func TestRightOfTheLongest(t *testing.T) { // P12.1: with the answers written out
	data := make([]byte, 65537)
	for _, c := range []struct {
		at, of, size uint32
		n, by, most  int
		want         bool
	}{
		{15, 16, 1048576, 65536, 65536, 1048576, true},
		{0, 16, 1048576, 65536, 65536, 1048576, true},
		{15, 16, 1048575, 65535, 65536, 1048576, true},
		{15, 16, 1048575, 65536, 65536, 1048576, false},
		{16, 17, 1048576, 0, 65536, 1048576, false},
		{16, 17, 1048577, 1, 65536, 1048577, false},
		{16, 17, 1048577, 1, 65536, greatest, false},
		{16, 16, 1048576, 0, 65536, 1048576, false},
		{15, 16, 1048576, 65536, 65536, 1048575, false},
		{1048575, 1048576, 1048576, 1, 1, 1048576, true},
		{1048576, 1048577, 1048577, 1, 1, greatest, false},
		{1048576, 1048576, 1048576, 0, 1, 1048576, false},
		{0, 1, 65536, 65536, 65536, 65536, true},
		{0, 1, 65537, 65537, 65537, 1048576, false},
		{0, 2, 65537, 65537, 65536, 1048576, false},
	} {
		wantRight(t, api.Frame{At: c.at, Of: c.of, Size: c.size, Data: data[:c.n]}, c.by, c.most, c.want)
	}
}

func TestRightLooksAtNothingElse(t *testing.T) { // P12.1
	full := func(data []byte) api.Frame {
		return api.Frame{
			Head: api.Head{Kind: 99, From: 255, To: 255}, ID: id, Seq: math.MaxUint64, Inst: math.MaxUint64, Round: 7,
			At: 2, Of: 3, Size: 5, Data: data,
			Est: []api.Run{{From: 255, First: 0, Count: math.MaxUint64}}, Aux: make([]api.Run, 70),
			Done: []uint64{math.MaxUint64}, Held: make([]uint64, 70),
		}
	}
	wantRight(t, full([]byte("e")), 2, 5, true)
	wantRight(t, full([]byte("e")), 2, 4, false)
	wantRight(t, full([]byte("ef")), 2, 5, false)
	wantRight(t, full(nil), 2, 5, false)
	wantRight(t, api.Frame{}, 2, 5, false)
	wantRight(t, api.Frame{Of: 1}, 2, 5, true)
	wantRight(t, api.Frame{Of: 1}, 2, 0, true)
	wantRight(t, api.Frame{Of: 1}, 2, -1, false)
	wantRight(t, api.Frame{Of: 1, Data: []byte{}}, 2, 0, true)
}

func TestAllOfAnyID(t *testing.T) { // P12.1: whatever id it is
	for _, x := range []api.ID{{}, {From: 1, Seq: 2}, {From: 63, Seq: api.MaxSeq}, {From: 64}, {From: 255, Seq: math.MaxUint64}} {
		l := chunk.All(x, []byte("abc"), 2)
		if len(l) != 2 || l[0].ID != x || l[1].ID != x || string(l[0].Data) != "ab" || string(l[1].Data) != "c" {
			t.Errorf("All(%v) = %v", x, l)
		}
	}
}

// text is all that is told of a payload by a chunk's size.
func text(p []byte, by int) string {
	s := fmt.Sprint(chunk.Count(len(p), by), chunk.All(id, p, by))
	for at := -1; at <= len(p); at++ {
		b, ok := chunk.Cut(p, by, at)
		s += fmt.Sprint(chunk.Length(len(p), by, at), b, ok)
	}
	return s
}

func TestWhatIsHandedInIsLeftAsItWas(t *testing.T) { // P0.4: and not kept, the room behind its end neither
	for size := range 12 {
		for by := 1; by < 14; by++ {
			room := payload(20)
			kept := bytes.Clone(room)
			p := room[:size]
			want := text(bytes.Clone(p), by)
			l := chunk.All(id, p, by)
			told := fmt.Sprint(l)
			cut, _ := chunk.Cut(p, by, 0)
			first := bytes.Clone(cut)
			for _, f := range l {
				wantRight(t, f, by, size, true)
			}
			if !bytes.Equal(room, kept) {
				t.Fatalf("of %d bytes by %d: what is handed in is changed: %v, want %v", size, by, room, kept)
			}
			for i := range room {
				room[i] ^= 0xff
			}
			if fmt.Sprint(l) != told || !bytes.Equal(cut, first) {
				t.Fatalf("of %d bytes by %d: what is answered changes with what was handed in", size, by)
			}
			if got := text(kept[:size], by); got != want {
				t.Fatalf("of %d bytes by %d: told %s, want %s", size, by, got, want)
			}
		}
	}
}

func TestRightLeavesAFrameAsItWas(t *testing.T) { // P0.4
	room := []byte("abcdefgh")
	f := api.Frame{At: 1, Of: 3, Size: 5, Data: room[2:4], Done: []uint64{4}, Est: []api.Run{{Count: 1}}}
	kept := fmt.Sprint(f)
	for range 3 {
		wantRight(t, f, 2, 5, true)
		wantRight(t, f, 3, 5, false)
	}
	if fmt.Sprint(f) != kept || string(room) != "abcdefgh" {
		t.Errorf("a frame is changed: %v, %q", f, room)
	}
}

// spoil writes into bytes, and into the room behind their end.
func spoil(b []byte) {
	b = b[:cap(b)]
	for i := range b {
		b[i] = 0xee
	}
}

func TestWhatIsCutIsNewMemory(t *testing.T) { // P0.4
	for size := range 12 {
		for by := 1; by < 14; by++ {
			room := payload(20)
			kept := bytes.Clone(room)
			p := room[:size]
			for at := range len(lengths(size, by)) {
				one, _ := chunk.Cut(p, by, at)
				two, _ := chunk.Cut(p, by, at)
				told := bytes.Clone(two)
				spoil(one)
				if !bytes.Equal(two, told) {
					t.Fatalf("of %d bytes by %d: two answers share memory", size, by)
				}
				spoil(two)
			}
			if !bytes.Equal(room, kept) {
				t.Fatalf("of %d bytes by %d: what is cut is the payload's own: %v, want %v", size, by, room, kept)
			}
			wantChunks(t, p, by)
		}
	}
}

func TestFramesAreNewMemory(t *testing.T) { // P0.4: and no two of them share any
	for size := range 12 {
		for by := 1; by < 14; by++ {
			room := payload(20)
			kept := bytes.Clone(room)
			p := room[:size]
			one, two := chunk.All(id, p, by), chunk.All(id, p, by)
			told := fmt.Sprint(two)
			for i := range one {
				rest := fmt.Sprint(one[i+1:])
				spoil(one[i].Data)
				if fmt.Sprint(one[i+1:]) != rest {
					t.Fatalf("of %d bytes by %d: the chunk %d shares memory with one behind it", size, by, i)
				}
				one[i] = api.Frame{}
			}
			for i := range one[:cap(one)] {
				one[:cap(one)][i].Size = 77
			}
			if fmt.Sprint(two) != told || !bytes.Equal(room, kept) {
				t.Fatalf("of %d bytes by %d: an answer shares memory with another one, or with the payload", size, by)
			}
			for i := len(two) - 1; i >= 0; i-- {
				rest := fmt.Sprint(two[:i])
				spoil(two[i].Data)
				if fmt.Sprint(two[:i]) != rest {
					t.Fatalf("of %d bytes by %d: the chunk %d shares memory with one ahead of it", size, by, i)
				}
			}
			wantChunks(t, p, by)
		}
	}
}

func TestAnswersHangOnArgumentsAlone(t *testing.T) { // P0.6: in whatever order it is asked
	sizes := []int{5, 0, 9, 1, 12, 5}
	want := map[[2]int]string{}
	for range 2 {
		for _, size := range sizes {
			for _, by := range []int{2, 1, 5, 0, 3, 65536, 2} {
				got := text(payload(size), by)
				if told, ok := want[[2]int{size, by}]; ok && got != told {
					t.Errorf("of %d bytes by %d: told %s, and then %s", size, by, told, got)
				}
				want[[2]int{size, by}] = got
			}
		}
	}
}

// FuzzPayload holds all that is told of a payload's chunks against its bytes.
func FuzzPayload(f *testing.F) { // P12.1, P12.2
	f.Add([]byte("abcde"), 2, 1)
	f.Add([]byte{}, 1, 0)
	f.Add([]byte("abcdef"), 3, 2)
	f.Add([]byte("abc"), 65536, -1)
	f.Add([]byte("abc"), 0, 0)
	f.Add([]byte("abc"), least, greatest)
	f.Fuzz(func(t *testing.T, p []byte, by, at int) {
		want := lengths(len(p), by)
		if len(want) == 0 {
			wantNoChunks(t, p, by)
			return
		}
		wantChunks(t, p, by)
		if at < 0 || at >= len(want) {
			wantNoChunk(t, p, by, at)
		}
	})
}

// FuzzRight holds a frame against all chunks of a payload of its Size.
func FuzzRight(f *testing.F) { // P12.1
	f.Add(uint32(2), uint32(3), uint32(5), []byte("e"), 2, 5)
	f.Add(uint32(0), uint32(1), uint32(0), []byte{}, 1, 0)
	f.Add(uint32(0), uint32(0), uint32(0), []byte{}, 0, 0)
	f.Add(uint32(0), uint32(17), uint32(mega+1), []byte{}, sixty4, greatest)
	f.Add(uint32(math.MaxUint32), uint32(0), uint32(math.MaxUint32), []byte("a"), -1, least)
	f.Fuzz(func(t *testing.T, at, of, size uint32, data []byte, by, most int) {
		want := false
		if l := lengths(int(size), by); int(size) <= most && int(at) < len(l) {
			want = int(of) == len(l) && l[at] == len(data)
		}
		wantRight(t, api.Frame{At: at, Of: of, Size: size, Data: data}, by, most, want)
	})
}
