package fresh_test

import (
	"fmt"
	"testing"

	"unison/api"
	"unison/fresh"
)

// full is a frame of which all fields are given, its lists having room behind their ends.
func full() api.Frame {
	return api.Frame{
		Head: api.Head{Kind: 1, From: 2, To: 3}, ID: api.ID{From: 4, Seq: 5}, Seq: 6,
		At: 7, Of: 8, Size: 9, Inst: 10, Round: 11,
		Est:  append(make([]api.Run, 0, 4), api.Run{From: 12, First: 13, Count: 14}),
		Aux:  append(make([]api.Run, 0, 4), api.Run{From: 15, First: 16, Count: 17}),
		Done: append(make([]uint64, 0, 4), 18, 19), Held: append(make([]uint64, 0, 4), 20, 21),
		Data: append(make([]byte, 0, 4), "ab"...),
	}
}

// spoil writes into a frame's lists, and behind their ends.
func spoil(f api.Frame) {
	for i := range f.Est[:cap(f.Est)] {
		f.Est[:cap(f.Est)][i].First = 99
	}
	for i := range f.Aux[:cap(f.Aux)] {
		f.Aux[:cap(f.Aux)][i].First = 99
	}
	for i := range f.Done[:cap(f.Done)] {
		f.Done[:cap(f.Done)][i] = 99
	}
	for i := range f.Held[:cap(f.Held)] {
		f.Held[:cap(f.Held)][i] = 99
	}
	for i := range f.Data[:cap(f.Data)] {
		f.Data[:cap(f.Data)][i] = 99
	}
}

// text is a frame with the room behind its lists' ends as text.
func text(f api.Frame) string {
	return fmt.Sprint(f, f.Est[:cap(f.Est)], f.Aux[:cap(f.Aux)], f.Done[:cap(f.Done)], f.Held[:cap(f.Held)], f.Data[:cap(f.Data)])
}

func TestFrame(t *testing.T) { // P0.4
	f := full()
	kept := text(f)
	got := fresh.Frame(f)
	if fmt.Sprint(got) != fmt.Sprint(f) {
		t.Errorf("Frame = %v, want %v", got, f)
	}
	spoil(got)
	if text(f) != kept {
		t.Errorf("what is handed in is changed: %s, want %s", text(f), kept)
	}
	got = fresh.Frame(f)
	spoil(f)
	if fmt.Sprint(got) != fmt.Sprint(full()) {
		t.Errorf("what is answered is changed: %v", got)
	}
}

func TestFrameOfEmptyLists(t *testing.T) { // P0.4, P0.5
	f := full()
	f.Est, f.Aux, f.Done, f.Held, f.Data = f.Est[:0], f.Aux[:0], f.Done[:0], f.Held[:0], f.Data[:0]
	kept := text(f)
	for _, x := range []api.Frame{fresh.Frame(f), fresh.Frame(api.Frame{})} {
		if len(x.Est)+len(x.Aux)+len(x.Done)+len(x.Held)+len(x.Data) != 0 {
			t.Errorf("Frame of empty lists has some: %v", x)
		}
		spoil(x)
	}
	if text(f) != kept {
		t.Errorf("what is handed in is changed: %s, want %s", text(f), kept)
	}
}
