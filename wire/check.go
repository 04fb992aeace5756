package wire

import (
	"slices"

	"unison/api"
	"unison/ident"
)

// checker holds each field that it is shown against its own limits, and leaves
// nothing of it.
type checker struct{ bad bool }

func (c *checker) want(fine bool) { c.bad = c.bad || !fine }

func (c *checker) number(n uint64) uint64 {
	c.want(n <= api.MaxSeq)
	return 0
}

// word leaves the limits to placeMay: At, Of and Size have each another one.
func (c *checker) word(uint32) uint32 { return 0 }

func (c *checker) id(x api.ID) api.ID {
	c.want(ident.May(x, api.MaxProcs))
	return api.ID{}
}

func (c *checker) runs(l []api.Run) []api.Run {
	c.want(len(l) <= api.MaxProcs && ident.Rows(l...) && ident.Count(l...) <= api.MaxBatch)
	return nil
}

func (c *checker) vector(v []uint64) []uint64 {
	tooGreat := func(n uint64) bool { return n > api.MaxSeq }
	c.want(len(v) <= api.MaxProcs && !slices.ContainsFunc(v, tooGreat))
	return nil
}

func (c *checker) data(b []byte) []byte {
	c.want(len(b) <= api.MaxChunk)
	return nil
}

// isBare tells whether a frame has nothing but its head.
func isBare(f api.Frame) bool {
	return f.ID == api.ID{} && f.Seq == 0 && f.At == 0 && f.Of == 0 && f.Size == 0 &&
		f.Inst == 0 && f.Round == 0 && len(f.Est) == 0 && len(f.Aux) == 0 &&
		len(f.Done) == 0 && len(f.Held) == 0 && len(f.Data) == 0
}

func headMay(h api.Head) bool {
	return h.From < api.MaxProcs && h.To < api.MaxProcs && h.From != h.To
}

// placeMay may be asked of every Kind: where At, Of and Size aren't fields, they are 0.
func placeMay(f api.Frame) bool {
	return f.At < api.MaxParts && f.Of <= api.MaxParts && f.Size <= api.MaxPayload
}

// kindMay tells whether what a Kind asks beyond each field's own limits holds.
func kindMay(f api.Frame) bool {
	switch f.Kind {
	case api.KindChunk, api.KindReply:
		return f.At < f.Of
	case api.KindPhase1, api.KindPhase2:
		return f.Inst >= 1
	case api.KindDecide:
		return f.Inst >= 1 && len(f.Est) >= 1
	}
	return true
}
