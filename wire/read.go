package wire

import (
	"math"

	"unison/api"
	"unison/num"
)

// reader reads each field that it is shown: what it was is of no account. Behind
// its first error it reads noughts, so that it is enough to ask for that at the end.
type reader struct{ *num.Reader }

// number takes numbers above MaxSeq, too: such a frame can be read, though it may not be.
func (r reader) number(uint64) uint64 { return r.Num(math.MaxUint64) }

func (r reader) word(uint32) uint32 { return uint32(r.Num(math.MaxUint32)) }

func (r reader) from() uint8 { return uint8(r.Num(math.MaxUint8)) }

func (r reader) id(x api.ID) api.ID {
	x.From = r.from()
	x.Seq = r.number(x.Seq)
	return x
}

func (r reader) runs([]api.Run) []api.Run {
	l := make([]api.Run, r.Num(api.MaxProcs))
	for i, x := range l {
		x.From = r.from()
		x.First = r.number(x.First)
		x.Count = r.number(x.Count)
		l[i] = x
	}
	return l
}

func (r reader) vector([]uint64) []uint64 {
	v := make([]uint64, r.Num(api.MaxProcs))
	for i, n := range v {
		v[i] = r.number(n)
	}
	return v
}

func (r reader) data([]byte) []byte { return r.Row(api.MaxChunk) }
