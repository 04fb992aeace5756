package wire

import (
	"unison/api"
	"unison/num"
)

// writer puts each field that it is shown behind those ahead, and leaves it as it is.
type writer struct{ out []byte }

// put appends to bytes of the writer's own: num.Put alone would copy all that is
// ahead for each field.
func (w *writer) put(l ...uint64) { w.out = append(w.out, num.Put(nil, l...)...) }

func (w *writer) number(n uint64) uint64 {
	w.put(n)
	return n
}

func (w *writer) word(n uint32) uint32 {
	w.put(uint64(n))
	return n
}

func (w *writer) id(x api.ID) api.ID {
	w.put(uint64(x.From), x.Seq)
	return x
}

func (w *writer) runs(l []api.Run) []api.Run {
	w.put(uint64(len(l)))
	for _, x := range l {
		w.put(uint64(x.From), x.First, x.Count)
	}
	return l
}

func (w *writer) vector(v []uint64) []uint64 {
	w.put(uint64(len(v)))
	w.put(v...)
	return v
}

func (w *writer) data(b []byte) []byte {
	w.out = num.Rows(w.out, b)
	return b
}
