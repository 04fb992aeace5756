// Package num is layer 1: numbers and rows as bytes. See shared/doc/01-num.md.
package num

import (
	"math"

	"unison/api"
)

// mostBytes is how many bytes a number has at most behind the one that counts them.
const mostBytes = 8

// Put puts numbers behind bytes.
func Put(b []byte, l ...uint64) []byte {
	out := fresh(b)
	for _, n := range l {
		out = appendNumber(out, n)
	}
	return out
}

// Rows puts rows behind bytes.
func Rows(b []byte, l ...[]byte) []byte {
	out := fresh(b)
	for _, row := range l {
		out = appendNumber(out, uint64(len(row)))
		out = append(out, row...)
	}
	return out
}

// Reader reads numbers and rows.
type Reader struct {
	rest []byte
	err  api.Errno
}

// New is a reader at the front.
func New(b []byte) *Reader { return &Reader{rest: fresh(b)} }

// Num is the number that stands next.
func (r *Reader) Num(most uint64) uint64 {
	if r.silent() {
		return 0
	}
	n, size, err := readNumber(r.rest, most)
	if err != api.OK {
		r.err = err
		return 0
	}
	r.rest = r.rest[size:]
	return n
}

// Row is the row that stands next.
func (r *Reader) Row(most int) []byte {
	if r.silent() {
		return nil
	}
	row, size, err := readRow(r.rest, most)
	if err != api.OK {
		r.err = err
		return nil
	}
	r.rest = r.rest[size:]
	return row
}

// Left is how many bytes stand behind.
func (r *Reader) Left() int {
	if r == nil {
		return 0
	}
	return len(r.rest)
}

// Err is the error.
func (r *Reader) Err() api.Errno {
	if r == nil {
		return api.OK
	}
	return r.err
}

// End is the error, or that bytes are left.
func (r *Reader) End() api.Errno {
	if err := r.Err(); err != api.OK {
		return err
	}
	if r.Left() > 0 {
		return api.ErrLong
	}
	return api.OK
}

// silent tells whether a reader answers nothing, whatever is asked: a nil one is
// no bad one, but it must not become one either.
func (r *Reader) silent() bool { return r == nil || r.err != api.OK }

// fresh copies bytes, so that neither they nor the room behind them are written or kept.
func fresh(b []byte) []byte { return append([]byte(nil), b...) }

// appendNumber may write into the room behind out: out must be this package's own.
func appendNumber(out []byte, n uint64) []byte {
	size := byteCount(n)
	out = append(out, byte(size))
	for range size {
		out = append(out, byte(n))
		n >>= 8
	}
	return out
}

func byteCount(n uint64) int {
	count := 0
	for n > 0 {
		n >>= 8
		count++
	}
	return count
}

// readNumber is the number at the front of b, and how many bytes it takes there.
func readNumber(b []byte, most uint64) (n uint64, size int, err api.Errno) {
	if len(b) == 0 {
		return 0, 0, api.ErrShort
	}
	if b[0] > mostBytes {
		return 0, 0, api.ErrForm
	}
	size = 1 + int(b[0])
	if len(b) < size {
		return 0, 0, api.ErrShort
	}
	// A highest byte of 0 would be a second writing of the same number.
	if size > 1 && b[size-1] == 0 {
		return 0, 0, api.ErrForm
	}
	for i := size - 1; i > 0; i-- {
		n = n<<8 | uint64(b[i])
	}
	if n > most {
		return 0, 0, api.ErrRange
	}
	return n, size, api.OK
}

// readRow is a copy of the row at the front of b, and how many bytes it takes there.
func readRow(b []byte, most int) (row []byte, size int, err api.Errno) {
	length, ahead, err := readNumber(b, math.MaxUint64)
	if err != api.OK {
		return nil, 0, err
	}
	// Only what has passed both of these is sure to be an int, and to be one behind ahead.
	if length > uint64(max(most, 0)) {
		return nil, 0, api.ErrLong
	}
	if length > uint64(len(b)-ahead) {
		return nil, 0, api.ErrShort
	}
	size = ahead + int(length)
	return fresh(b[ahead:size]), size, api.OK
}
