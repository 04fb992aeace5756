package relay_test

import (
	"fmt"
	"math/rand"
	"slices"
	"strings"
	"testing"

	"unison/api"
	"unison/relay"
)

func TestExample(t *testing.T) { // P16.1
	q := relay.New(4)
	wantPut(t, q, "0.1.0 0.1.0", 1, 1, 0)
	wantTake(t, q, 2, nil, "0.1.0", 0)
}

func TestARow(t *testing.T) { // P16.1, P16.2: with the answers written out
	q := relay.New(5)
	wantSizes(t, q, 0, 0)
	wantPut(t, q, "1.1.0 1.1.1", 2, 2, 0)
	wantPut(t, q, "0.4.0 1.1.1 2.1.0", 2, 4, 0)
	wantTake(t, q, 1, nil, "1.1.0", 3)
	wantPut(t, q, "1.2.0 0.4.0 1.1.0 2.2.0 2.3.0", 2, 5, 2)
	wantTake(t, q, 2, []uint8{0}, "1.1.1 2.1.0", 2)
	wantPut(t, q, "0.4.0 2.2.0 2.3.0 0.5.7", 3, 5, 3)
	wantDrop(t, q, 3, 2, []uint64{4, 0, 1}, []uint64{0, 1, 2})
	wantPut(t, q, "2.2.0 1.3.0", 2, 4, 3)
	wantTake(t, q, 1, []uint8{2}, "1.2.0", 1)
	wantDrop(t, q, 0, 1, []uint64{0, 2})
	wantTake(t, q, 0, []uint8{1}, "", 0)
	wantPut(t, q, "1.2.0 0.1.0", 2, 2, 3)
	wantTake(t, q, 9, nil, "1.2.0 0.1.0", 0)
	wantTake(t, q, 9, nil, "", 0)
}

// cut hands a row on in pieces of so many.
func cut(l []api.Frame, size int, to func(l ...api.Frame)) {
	for ; len(l) > size; l = l[size:] {
		to(l[:size]...)
	}
	to(l...)
}

func TestOneAtATimeAndManyAtOnce(t *testing.T) { // P16.1, P16.2: what is taken was put in, each once, in order
	for n := 1; n <= 12; n++ {
		var all []api.Frame
		for i := range n {
			all = append(all, chunk(uint8(i%3), uint64(i/6+1), uint32(i/3%2)))
		}
		for in := 1; in <= n; in++ {
			for out := 1; out <= n+1; out++ {
				w := watch(t, n)
				cut(all, in, func(l ...api.Frame) { w.put(l...) })
				var got []string
				for w.q.Len() > 0 {
					got = append(got, w.take(out))
				}
				if l := strings.Join(got, " "); l != names(all) {
					t.Errorf("in by %d, out by %d: %s, want %s", in, out, l, names(all))
				}
			}
		}
	}
}

func TestPutAndTakeInTurns(t *testing.T) { // P16.1, P16.2: the queue goes on, however often it was full
	for room := 1; room <= 5; room++ {
		for in := range 7 {
			for out := range 7 {
				w := watch(t, room)
				seq := uint64(0)
				for range 20 {
					var l []api.Frame
					for range in {
						seq++
						l = append(l, chunk(uint8(seq%3), seq, 0))
					}
					w.put(l...)
					w.take(out)
				}
				w.drain()
			}
		}
	}
}

func TestTwoAlike(t *testing.T) { // P16.1: in one Put, and in two; the first one stays where it is
	for _, c := range []struct {
		puts []string
		want string
	}{
		{[]string{"0.1.0 0.1.0"}, "0.1.0"},
		{[]string{"0.1.0", "0.1.0"}, "0.1.0"},
		{[]string{"0.1.0 0.1.0 0.1.0", "0.1.0 0.1.0"}, "0.1.0"},
		{[]string{"0.1.0 0.1.1 0.1.0"}, "0.1.0 0.1.1"},
		{[]string{"0.1.0 0.1.1", "0.1.0"}, "0.1.0 0.1.1"},
		{[]string{"0.1.0", "0.1.1 0.1.0"}, "0.1.0 0.1.1"},
		{[]string{"0.1.0 0.1.1", "0.1.1 0.1.0 0.1.2"}, "0.1.0 0.1.1 0.1.2"},
		{[]string{"1.1.0 0.2.0", "", "0.2.0", "1.1.0"}, "1.1.0 0.2.0"},
		{[]string{"63.9.5 0.9.5 63.9.5 0.9.5", "0.9.5 63.9.5"}, "63.9.5 0.9.5"},
	} {
		w := watch(t, 9)
		for _, p := range c.puts {
			w.put(row(p)...)
		}
		wantSizes(t, w.q, len(row(c.want)), 0)
		if got := w.drain(); got != c.want {
			t.Errorf("Put of %q: %s, want %s", c.puts, got, c.want)
		}
	}
}

func TestTwoAlikeThatDifferElsewhere(t *testing.T) { // P16.1, P16.2: they are alike all the same, and the first one is answered
	first := marked(chunk(3, 5, 7), 1)
	want := text(first)
	for i := range 12 {
		f := marked(chunk(3, 5, 7), 1)
		switch i {
		case 0:
			f.Kind++
		case 1:
			f.Head.From++
		case 2:
			f.To++
		case 3:
			f.Seq++
		case 4:
			f.Of++
		case 5:
			f.Size++
		case 6:
			f.Inst, f.Round = f.Inst+1, f.Round+1
		case 7:
			f.Est, f.Aux = nil, nil
		case 8:
			f.Done, f.Held = nil, nil
		case 9:
			f.Data = nil
		case 10:
			f = marked(f, 2)
		case 11:
			f = chunk(3, 5, 7)
		}
		q := relay.New(9)
		if n, again := q.Put(first), q.Put(f, f); n != 1 || again != 0 {
			t.Errorf("the change %d: Put = %d, then %d, want 1 and 0", i, n, again)
		}
		if l := q.Take(9); len(l) != 1 || text(l[0]) != want {
			t.Errorf("the change %d: Take = %q, want %s", i, texts(l), want)
		}
	}
}

func TestAlikeInAllButOne(t *testing.T) { // P16.1: the same ID and another At, the same At and another ID: they are others
	w := watch(t, maxRoom)
	var all []string
	for _, from := range []uint8{0, 1, 2, 31, 63, 64, 128, 255} {
		for _, seq := range []uint64{0, 1, 2, 255, 256, 1 << 32, 1<<32 + 1, last, over} {
			for _, at := range []uint32{0, 1, 2, 255, 256, 1 << 16, 1<<20 - 1, 1 << 31, lastAt} {
				f := chunk(from, seq, at)
				if w.put(f) != 1 || w.put(f) != 0 {
					w.fail("it isn't put in, or is twice")
				}
				all = append(all, name(f))
			}
		}
	}
	if got := w.drain(); got != strings.Join(all, " ") {
		w.fail("Take = %s", got)
	}
}

func TestPutInAgain(t *testing.T) { // P16.1, P16.2: behind its Take, its Drop, and when it was left out: it is the last one then
	for what, goes := range map[string]func(w *watched){
		"Take":                     func(w *watched) { w.take(2) },
		"Drop":                     func(w *watched) { w.drop([]uint64{1}) },
		"left out ahead":           func(w *watched) { w.take(0, 9, 0) },
		"left out behind the last": func(w *watched) { w.take(1, 0) },
	} {
		w := watch(t, 9)
		w.put(row("9.9.9 0.1.0 1.1.0")...)
		if w.put(row("0.1.0")...) != 0 {
			t.Errorf("%s: it is put in twice", what)
		}
		goes(w)
		if w.put(row("0.1.0")...) != 1 || w.put(row("0.1.0 0.1.0")...) != 0 {
			t.Errorf("%s: it isn't put in again, or is twice", what)
		}
		if got := w.drain(); !strings.HasSuffix(got, "1.1.0 0.1.0") {
			t.Errorf("%s: Take = %s", what, got)
		}
	}
}

func TestPutInAgainAndAgain(t *testing.T) { // P16.1, P16.2: one that is answered anew is the one that was put in last
	w := watch(t, 2)
	for range 20 {
		w.put(row("1.1.0 0.1.0 1.1.0")...)
		w.take(1)
		w.put(row("1.1.0 0.1.0")...)
		if got := w.take(2); got != "0.1.0 1.1.0" {
			w.fail("Take = %s", got)
		}
		w.put(row("0.1.0")...)
		w.drop([]uint64{1})
	}
}

func TestThatJustFillsTheRoom(t *testing.T) { // P16.1, P16.2: and a chunk more
	const all = "0.1.0 0.1.1 1.1.0 2.1.0 0.2.0 2.1.1 1.2.0"
	for room := 1; room <= 7; room++ {
		l := row(all)
		for _, in := range []int{1, 2, room, 7} {
			w := watch(t, room)
			cut(l[:room], in, func(l ...api.Frame) { w.put(l...) })
			wantSizes(t, w.q, room, 0)
			if w.put(row("3.1.0")...) != 0 {
				w.fail("there is more than the room")
			}
			wantSizes(t, w.q, room, 1)
			if got := w.drain(); got != names(l[:room]) {
				w.fail("Take = %s, want %s", got, names(l[:room]))
			}
		}
	}
}

func TestOfManyTheFirstOnes(t *testing.T) { // P16.1, P16.2: for which there is room; the others are lost
	l := row("0.1.0 0.1.1 1.1.0 2.1.0 0.2.0 2.1.1 1.2.0")
	for room := 1; room <= 9; room++ {
		for ahead := range 4 {
			w := watch(t, room)
			w.put(row("5.1.0 5.2.0 5.3.0")[:ahead]...)
			there := min(ahead, room)
			fit := min(7, room-there)
			if got := w.put(l...); got != fit {
				w.fail("Put = %d, want %d", got, fit)
			}
			wantSizes(t, w.q, there+fit, ahead-there+7-fit)
			w.take(there)
			if got := w.drain(); got != names(l[:fit]) {
				w.fail("Take = %s, want %s", got, names(l[:fit]))
			}
		}
	}
}

func TestOneThatIsThereAndNoRoom(t *testing.T) { // P16.1: it is left out, not lost
	q := relay.New(3)
	wantPut(t, q, "0.1.0 1.1.0 0.1.1", 3, 3, 0)
	wantPut(t, q, "0.1.0", 0, 3, 0)
	wantPut(t, q, "0.1.1 1.1.0 0.1.0 0.1.0", 0, 3, 0)
	wantPut(t, q, "0.1.0 2.1.0 1.1.0", 0, 3, 1)
	wantPut(t, q, "2.1.0 0.1.1 2.1.1", 0, 3, 3)
	wantTake(t, q, 9, nil, "0.1.0 1.1.0 0.1.1", 0)
	wantPut(t, q, "0.1.0 0.1.0 1.1.0 0.1.0 2.1.0 1.1.0 3.1.0 2.1.0", 3, 3, 4)
	wantTake(t, q, 9, nil, "0.1.0 1.1.0 2.1.0", 0)
}

func TestWhatWasLostIsNotThere(t *testing.T) { // P16.1: it is lost each time, and put in when there is room
	q := relay.New(1)
	wantPut(t, q, "0.1.0 1.1.0 1.1.0", 1, 1, 2)
	wantPut(t, q, "1.1.0", 0, 1, 3)
	wantTake(t, q, 1, nil, "0.1.0", 0)
	wantTake(t, q, 1, nil, "", 0)
	wantPut(t, q, "1.1.0 0.1.0", 1, 1, 4)
	wantTake(t, q, 9, nil, "1.1.0", 0)
	wantSizes(t, q, 0, 4)
}

func TestRoomIsFreeAgain(t *testing.T) { // P16.1: just as much as went
	more := row("5.1.0 5.2.0 5.3.0 5.4.0 5.5.0 5.6.0")
	for what, goes := range map[string]func(w *watched, n int){
		"Take":     func(w *watched, n int) { w.take(n) },
		"Drop":     func(w *watched, n int) { w.drop([]uint64{uint64(n)}) },
		"left out": func(w *watched, n int) { w.take(0, []uint8{0, 1, 2, 3}[:n]...) },
		"both":     func(w *watched, n int) { w.take(min(n, 1), []uint8{0, 1, 2, 3}[min(n, 1):n]...) },
	} {
		for n := range 5 {
			w := watch(t, 4)
			switch what {
			case "Drop":
				w.put(row("0.4.0 0.1.0 0.3.0 0.2.0")...)
			default:
				w.put(row("0.1.0 1.1.0 2.1.0 3.1.0")...)
			}
			goes(w, n)
			wantSizes(t, w.q, 4-n, 0)
			if got := w.put(more...); got != n {
				w.fail("%s: %d went, and %d are put in", what, n, got)
			}
			wantSizes(t, w.q, 4, 6-n)
			if got := w.drain(); !strings.HasSuffix(got, names(more[:n])) {
				w.fail("%s: Take = %s", what, got)
			}
		}
	}
}

func TestRooms(t *testing.T) { // P16.1: below 1, above MaxBag, and between
	var all []api.Frame
	for i := range maxRoom + 3 {
		all = append(all, chunk(uint8(i%5), uint64(i/5+1), uint32(i%7)))
	}
	for _, c := range [][2]int{
		{least, 1}, {least + 1, 1}, {-1 << 32, 1}, {-maxRoom, 1}, {-2, 1}, {-1, 1}, {0, 1}, {1, 1}, {2, 2}, {3, 3}, {255, 255}, {256, 256},
		{257, 257}, {4095, 4095}, {4096, 4096}, {4097, 4096}, {4098, 4096}, {8192, 4096}, {1 << 16, 4096}, {1 << 31, 4096}, {1 << 32, 4096},
		{1<<32 + 1, 4096}, {1 << 62, 4096}, {greatest, 4096},
	} {
		q := relay.New(c[0])
		if got := q.Put(all...); got != c[1] {
			t.Errorf("New(%d): Put = %d, want %d", c[0], got, c[1])
		}
		wantSizes(t, q, c[1], len(all)-c[1])
		wantTake(t, q, greatest, nil, names(all[:c[1]]), 0)
		if got := q.Put(all[1:]...); got != c[1] {
			t.Errorf("New(%d): Put = %d when all went, want %d", c[0], got, c[1])
		}
	}
}

func TestAGreatQueue(t *testing.T) { // P16.1, P16.2: full again and again, and taken one at a time
	q := relay.New(maxRoom)
	seq := func(i int) api.Frame { return chunk(uint8(i%64), uint64(i/64+1), uint32(i)) }
	next := 0
	for i := range 3 * maxRoom {
		if n := q.Put(seq(i)); n != 1 {
			t.Fatalf("Put of the %d. = %d", i, n)
		}
		if q.Len() == maxRoom {
			if q.Put(seq(i+1)) != 0 || q.Put(seq(i)) != 0 {
				t.Fatalf("there is more than the room at the %d.", i)
			}
			for range 1 + i%100 {
				l := q.Take(1)
				if len(l) != 1 || name(l[0]) != name(seq(next)) {
					t.Fatalf("Take = %s, want %s", names(l), name(seq(next)))
				}
				next++
			}
		}
	}
	for _, f := range q.Take(greatest) {
		if name(f) != name(seq(next)) {
			t.Fatalf("Take = %s, want %s", name(f), name(seq(next)))
		}
		next++
	}
	if next != 3*maxRoom {
		t.Errorf("%d were taken, of %d", next, 3*maxRoom)
	}
}

func TestTake(t *testing.T) { // P16.1, P16.2: of 0, of all, of more than there are, and below 0
	l := row("0.1.0 1.1.0 0.2.0 2.1.0 0.1.1")
	for n := range 6 {
		for _, most := range []int{least, least + 1, -1 << 32, -2, -1, 0, 1, 2, 3, 4, 5, 6, 7, 1 << 31, 1 << 32, greatest - 1, greatest} {
			w := watch(t, 5)
			w.put(l[:n]...)
			took := max(0, min(most, n))
			if got := w.take(most); got != names(l[:took]) {
				w.fail("Take = %s, want %s", got, names(l[:took]))
			}
			wantSizes(t, w.q, n-took, 0)
			if got := w.drain(); got != names(l[took:n]) {
				w.fail("Take of what is left = %s, want %s", got, names(l[took:n]))
			}
		}
	}
}

func TestThoseThatAreLeftOut(t *testing.T) { // P16.1, P16.2: with what is answered, and what stays, written out
	for _, c := range []struct {
		there string
		most  int
		but   []uint8
		want  string
		left  string
	}{
		{"2.1.0 0.1.0 0.2.0", 1, []uint8{2}, "0.1.0", "0.2.0"},                          // ahead
		{"2.1.0 2.1.1 2.2.0 0.1.0 0.2.0", 1, []uint8{2}, "0.1.0", "0.2.0"},              // several ahead
		{"0.1.0 2.1.0 0.2.0 0.3.0", 2, []uint8{2}, "0.1.0 0.2.0", "0.3.0"},              // between
		{"0.1.0 2.1.0 2.2.0 1.1.0 2.3.0 0.2.0", 3, []uint8{2}, "0.1.0 1.1.0 0.2.0", ""}, // between, several times
		{"0.1.0 2.1.0 0.2.0", 1, []uint8{2}, "0.1.0", "0.2.0"},                          // behind the last one
		{"0.1.0 2.1.0 2.1.1 0.2.0 2.2.0", 1, []uint8{2}, "0.1.0", "0.2.0 2.2.0"},        // and those at the front alone
		{"0.1.0 2.1.0", 1, []uint8{2}, "0.1.0", ""},                                     // behind the last one there is
		{"2.1.0 0.1.0 2.2.0 0.2.0 2.3.0", 2, []uint8{2}, "0.1.0 0.2.0", ""},             // all three
		{"2.1.0 0.1.0 2.2.0", 0, []uint8{2}, "", "0.1.0 2.2.0"},                         // none is answered
		{"2.1.0 2.2.0 0.1.0", -1, []uint8{2}, "", "0.1.0"},
		{"2.1.0 0.1.0", least, []uint8{2}, "", "0.1.0"},
		{"0.1.0 2.1.0", 0, []uint8{2}, "", "0.1.0 2.1.0"}, // it isn't at the front
		{"2.1.0 2.1.1 2.2.0", 0, []uint8{2}, "", ""},      // all are left out
		{"2.1.0 2.1.1 2.2.0", 1, []uint8{2}, "", ""},
		{"2.1.0 1.1.0 0.1.0", 9, []uint8{0, 1, 2}, "", ""},
		{"2.1.0 1.1.0 0.1.0 1.2.0", 1, []uint8{1, 2}, "0.1.0", ""},
		{"2.1.0 1.1.0 0.1.0 1.2.0", 1, []uint8{2}, "1.1.0", "0.1.0 1.2.0"},
		{"2.1.0 1.1.0 0.1.0 1.2.0", 2, []uint8{2, 2, 2}, "1.1.0 0.1.0", "1.2.0"},
		{"0.1.0 1.1.0 0.2.0", 2, []uint8{2}, "0.1.0 1.1.0", "0.2.0"}, // of which there is none
		{"0.1.0 1.1.0 0.2.0", 2, []uint8{}, "0.1.0 1.1.0", "0.2.0"},
		{"0.1.0 1.1.0 0.2.0", 9, []uint8{1}, "0.1.0 0.2.0", ""},
		{"255.1.0 0.1.0 63.1.0 64.1.0 1.1.0", 1, []uint8{64, 255, 63}, "0.1.0", "1.1.0"},
		{"", 3, []uint8{0, 1}, "", ""},
	} {
		w := watch(t, 9)
		w.put(row(c.there)...)
		if got := w.take(c.most, c.but...); got != c.want {
			w.fail("Take = %s, want %s", got, c.want)
		}
		wantSizes(t, w.q, len(row(c.left)), 0)
		if got := w.drain(); got != c.left {
			w.fail("what stays is %s, want %s", got, c.left)
		}
	}
}

func TestLeftOutInAllRows(t *testing.T) { // P16.1, P16.2: of up to five chunks of three senders, whoever is left out
	for n, rows := 0, 1; n <= 5; n, rows = n+1, 3*rows {
		for i := range rows {
			var l []api.Frame
			for rest := i; len(l) < n; rest /= 3 {
				l = append(l, chunk(uint8(rest%3), uint64(len(l)+1), 0))
			}
			for set := range 8 {
				var but []uint8
				for from := range uint8(3) {
					if set>>from&1 == 1 {
						but = append(but, from)
					}
				}
				for most := -1; most <= n+1; most++ {
					w := watch(t, 5)
					w.put(l...)
					w.take(most, but...)
					w.take(1, but...)
					w.drain()
				}
			}
		}
	}
}

func TestWhoALinksFrameIsFromIsNotLookedAt(t *testing.T) { // P16.1: whose the ID is counts, of the Head nothing
	q := relay.New(9)
	a, b := chunk(1, 1, 0), chunk(2, 1, 0)
	a.Head, b.Head = api.Head{Kind: 1, From: 2, To: 2}, api.Head{Kind: 1, From: 1, To: 1}
	q.Put(a, b)
	wantTake(t, q, 0, []uint8{2}, "", 2)
	wantTake(t, q, 0, []uint8{1}, "", 1)
	wantDrop(t, q, 0, 1, []uint64{9, 9})
	wantTake(t, q, 1, []uint8{1}, "2.1.0", 0)
}

func TestDropAtTheSeq(t *testing.T) { // P16.1: a vector that tells just an ID's Seq, one less and one more
	for _, seq := range []uint64{1, 2, 3, 255, 256, 1 << 32, last - 1, last, last + 1, 1 << 63, over - 1, over} {
		for _, from := range []uint8{0, 1, 5, 63} {
			for _, told := range []uint64{0, 1, seq / 2, seq - 1, seq, seq + 1, over} {
				w := watch(t, 3)
				w.put(chunk(from, seq, 0), chunk(from, seq, lastAt))
				v := make([]uint64, from+1)
				v[from] = told
				want := 0
				if seq <= told {
					want = 2
				}
				if got := w.drop(v); got != want {
					w.fail("Drop = %d, want %d", got, want)
				}
				w.drain()
			}
		}
	}
}

func TestDropWherever(t *testing.T) { // P16.1, P16.2: at the front, between and last, all chunks of an ID; what stays stays in order
	const all = "1.2.0 0.1.0 1.1.0 0.3.1 2.1.0 0.2.0 0.1.9 1.1.1 0.3.0"
	for _, c := range []struct {
		upto []uint64
		left string
	}{
		{[]uint64{0}, all},
		{[]uint64{1}, "1.2.0 1.1.0 0.3.1 2.1.0 0.2.0 1.1.1 0.3.0"},
		{[]uint64{2}, "1.2.0 1.1.0 0.3.1 2.1.0 1.1.1 0.3.0"},
		{[]uint64{3}, "1.2.0 1.1.0 2.1.0 1.1.1"},
		{[]uint64{0, 1}, "1.2.0 0.1.0 0.3.1 2.1.0 0.2.0 0.1.9 0.3.0"},
		{[]uint64{0, 2}, "0.1.0 0.3.1 2.1.0 0.2.0 0.1.9 0.3.0"},
		{[]uint64{0, 0, 1}, "1.2.0 0.1.0 1.1.0 0.3.1 0.2.0 0.1.9 1.1.1 0.3.0"},
		{[]uint64{1, 2, 7}, "0.3.1 0.2.0 0.3.0"},
		{[]uint64{3, 1, 1}, "1.2.0"},
		{[]uint64{2, 2, 1}, "0.3.1 0.3.0"},
		{[]uint64{3, 2, 1}, ""},
		{[]uint64{over, over, over, over}, ""},
	} {
		w := watch(t, 9)
		w.put(row(all)...)
		if got, want := w.drop(c.upto), 9-len(row(c.left)); got != want {
			w.fail("Drop = %d, want %d", got, want)
		}
		if got := w.drop(c.upto); got != 0 {
			w.fail("Drop = %d, of what went, want 0", got)
		}
		if got := w.drain(); got != c.left {
			w.fail("what stays is %s, want %s", got, c.left)
		}
	}
}

func TestWhatWasDroppedIsNotKeptOut(t *testing.T) { // P16.1: no vector is kept: what it let go may come again
	w := watch(t, 9)
	w.put(row("0.1.0 0.2.0 1.1.0")...)
	w.drop([]uint64{5, 5})
	if got := w.put(row("0.2.0 0.1.0 0.3.0 1.4.0")...); got != 4 {
		w.fail("Put = %d, want 4", got)
	}
	w.drop([]uint64{1})
	if got := w.drain(); got != "0.2.0 0.3.0 1.4.0" {
		w.fail("Take = %s", got)
	}
}

func TestVectorsOfOtherLengths(t *testing.T) { // P16.1: of fewer numbers than there are senders, and of more
	for senders := range 6 {
		for length := range 9 {
			w := watch(t, 99)
			for from := range uint8(senders) {
				w.put(chunk(from, 2, 0), chunk(from, 3, 1), chunk(from, 1, 0))
			}
			want := 2 * min(senders, length)
			if got := w.drop(slices.Repeat([]uint64{2}, length)); got != want {
				w.fail("Drop = %d, want %d", got, want)
			}
			w.drain()
		}
	}
}

func TestLongVectors(t *testing.T) { // P16.1, P0.1: they have numbers of senders that no group has, too
	for _, length := range []int{63, 64, 65, 127, 128, 255, 256, 257, 5000} {
		w := watch(t, 999)
		for from := range 256 {
			w.put(chunk(uint8(from), 1, 0), chunk(uint8(from), 2, 0))
		}
		if got, want := w.drop(slices.Repeat([]uint64{1}, length)), min(length, 256); got != want {
			w.fail("Drop = %d, want %d", got, want)
		}
		w.drain()
	}
}

// permutations are all orders of the numbers below one.
func permutations(n int) [][]int {
	l := [][]int{{}}
	for i := range n {
		var longer [][]int
		for _, order := range l {
			for at := range i + 1 {
				longer = append(longer, slices.Insert(slices.Clone(order), at, i))
			}
		}
		l = longer
	}
	return l
}

func TestSeveralVectors(t *testing.T) { // P16.1: of which each drops another sender's, in all orders
	vectors := [][]uint64{{3, 1}, {1, 3, 0}, {0, 2, 2, 9}, nil}
	for _, order := range permutations(len(vectors)) {
		w := watch(t, 99)
		for seq := range uint64(5) {
			for from := range uint8(4) {
				w.put(chunk(from, seq+1, 0), chunk(from, seq+1, 1))
			}
		}
		var l [][]uint64
		for _, i := range order {
			l = append(l, vectors[i])
		}
		if got := w.drop(l...); got != 2*(3+3+2+5) {
			w.fail("Drop = %d, want 26", got)
		}
		if got := w.drain(); got != "2.3.0 2.3.1 0.4.0 0.4.1 1.4.0 1.4.1 2.4.0 2.4.1 0.5.0 0.5.1 1.5.0 1.5.1 2.5.0 2.5.1" {
			w.fail("what stays is %s", got)
		}
	}
}

func TestDropOfNone(t *testing.T) { // P16.1, P0.5: nothing goes
	w := watch(t, 9)
	w.put(row("0.1.0 1.1.0 63.1.0")...)
	for _, l := range [][][]uint64{nil, {}, {nil}, {{}}, {nil, {}, nil}, {{0}}, {{0, 0, 0}, nil, {0}}} {
		if got := w.drop(l...); got != 0 {
			w.fail("Drop = %d, want 0", got)
		}
		wantDrop(t, w.q, 0, 3, l...)
	}
	w.drain()
	wantDrop(t, w.q, 0, 0)
	wantDrop(t, w.q, 0, 0, []uint64{over})
}

func TestDropOfAnIDOfNoSeq(t *testing.T) { // P16.1: each vector tells 0 of each sender at least, but none tells nothing
	for _, c := range []struct {
		upto [][]uint64
		want int
	}{
		{nil, 0}, {[][]uint64{}, 0}, {[][]uint64{nil}, 2}, {[][]uint64{{}}, 2}, {[][]uint64{{0}}, 2}, {[][]uint64{{0, 0, 0, 0}}, 2},
		{[][]uint64{nil, nil}, 2}, {[][]uint64{{1}}, 3}, {[][]uint64{{}, {0, 0, 9}}, 2},
	} {
		w := watch(t, 9)
		w.put(row("3.0.0 0.1.0 0.0.1 3.1.0")...)
		if got := w.drop(c.upto...); got != c.want {
			w.fail("Drop = %d, want %d", got, c.want)
		}
		w.drain()
	}
}

func TestPutOfNone(t *testing.T) { // P16.1, P0.5
	for _, there := range []string{"", "0.1.0", "0.1.0 0.2.0"} {
		w := watch(t, 2)
		w.put(row(there)...)
		for range 3 {
			if w.put() != 0 || w.put([]api.Frame{}...) != 0 || w.put(nil...) != 0 {
				w.fail("of none some are put in")
			}
		}
		if got := w.drain(); got != there {
			w.fail("Take = %s, want %s", got, there)
		}
	}
}

func TestFramesThatMayNotBe(t *testing.T) { // P16.1, P16.2, P0.1: they are chunks as all others
	long := api.Frame{ID: api.ID{From: 2, Seq: 5}, At: 8, Data: make([]byte, 1<<20+1), Done: make([]uint64, 99)}
	l := []api.Frame{
		{}, chunk(0, 0, 1), chunk(64, 1, 0), chunk(255, over, lastAt), chunk(1, last+1, 0), long,
		{Head: api.Head{Kind: api.KindBeat, From: 7, To: 7}, ID: api.ID{From: 1, Seq: 1}, Seq: over},
		{Head: api.Head{Kind: 99, From: 255, To: 64}, ID: api.ID{From: 1, Seq: 1}, At: 5, Of: 5, Size: lastAt},
		{ID: api.ID{From: 1, Seq: 1}, At: 6, Of: 2, Inst: over, Round: over, Est: []api.Run{{}, {From: 255, First: over, Count: over}}},
	}
	want := texts(l)
	q := relay.New(9)
	if n, again := q.Put(l...), q.Put(l...); n != len(l) || again != 0 {
		t.Errorf("Put = %d, then %d, want %d and 0", n, again, len(l))
	}
	wantSizes(t, q, len(l), 0)
	if got := texts(q.Take(9)); !slices.Equal(got, want) {
		t.Errorf("what is taken isn't what was put in: %.999q", got)
	}
	if n := q.Put(l...); n != len(l) {
		t.Errorf("Put = %d when all were taken, want %d", n, len(l))
	}
	wantDrop(t, q, 8, 1, slices.Repeat([]uint64{last + 1}, 65))
	wantTake(t, q, 9, []uint8{255}, "", 0)
}

func TestANilQueue(t *testing.T) { // P16.1, P0.1: it has nothing, and takes nothing
	var q *relay.Queue
	for range 2 {
		for _, l := range []string{"", "0.1.0", "0.1.0 0.1.0 63.9.9", "255.0.4294967295"} {
			wantPut(t, q, l, 0, 0, 0)
		}
		for _, most := range []int{least, -1, 0, 1, maxRoom, greatest} {
			for _, but := range [][]uint8{nil, {}, {0}, {0, 1, 255}} {
				if l := q.Take(most, but...); len(l) != 0 {
					t.Errorf("Take(%d, %d) = %s", most, but, names(l))
				}
			}
		}
		for _, l := range [][][]uint64{nil, {}, {nil}, {{}}, {{1, 2}, {over}}, {nil, {0}}} {
			wantDrop(t, q, 0, 0, l...)
		}
		wantSizes(t, q, 0, 0)
	}
}

func TestAnEmptyQueue(t *testing.T) { // P16.1: at first, and when all went
	for range 2 {
		q := relay.New(3)
		for range 3 {
			for _, most := range []int{least, -1, 0, 1, greatest} {
				wantTake(t, q, most, nil, "", 0)
				wantTake(t, q, most, []uint8{0, 1}, "", 0)
			}
			wantDrop(t, q, 0, 0, []uint64{over, over}, nil)
			wantPut(t, q, "0.1.0", 1, 1, 0)
			wantTake(t, q, 1, nil, "0.1.0", 0)
		}
	}
}

func TestAllOfAFrameStays(t *testing.T) { // P16.2, P0.5: whatever is given of it
	full := marked(chunk(1, 2, 3), 5)
	for i := range 14 {
		f := api.Frame{}
		switch i {
		case 0:
			f = full
		case 1:
			f.Kind = full.Kind
		case 2:
			f.Head.From, f.To = full.Head.From, full.To
		case 3:
			f.ID = full.ID
		case 4:
			f.Seq = full.Seq
		case 5:
			f.At = full.At
		case 6:
			f.Of, f.Size = full.Of, full.Size
		case 7:
			f.Inst, f.Round = full.Inst, full.Round
		case 8:
			f.Est = full.Est
		case 9:
			f.Aux = full.Aux
		case 10:
			f.Done = full.Done
		case 11:
			f.Held = full.Held
		case 12:
			f.Data = full.Data
		case 13:
			f.Est, f.Aux, f.Done, f.Held, f.Data = full.Est[:0], full.Aux[:0], full.Done[:0], full.Held[:0], full.Data[:0]
		}
		q := relay.New(2)
		if n := q.Put(f); n != 1 {
			t.Errorf("Put = %d", n)
		}
		if l := q.Take(2); len(l) != 1 || text(l[0]) != text(f) {
			t.Errorf("Take = %q, want %s", texts(l), text(f))
		}
	}
}

func TestWhatIsHandedInIsNotKept(t *testing.T) { // P0.4: nor is it changed, nor the room behind its end
	q := relay.New(9)
	l := append(make([]api.Frame, 0, 5), marked(chunk(0, 1, 0), 1), marked(chunk(1, 1, 0), 2), marked(chunk(1, 1, 0), 3), marked(chunk(2, 1, 0), 4))
	before, want := everything(l), texts([]api.Frame{l[0], l[1], l[3]})
	q.Put(l...)
	if got := everything(l); !slices.Equal(got, before) {
		t.Errorf("what is handed in is changed: %q, want %q", got, before)
	}
	spoil(l)
	if got := texts(q.Take(9)); !slices.Equal(got, want) {
		t.Errorf("what is kept is changed: %q, want %q", got, want)
	}

	q.Put(row("0.1.0 1.1.0 2.1.0 0.2.0 1.2.0")...)
	but := []uint8{0, 1, 2, 3}
	wantTake(t, q, 1, but[:1], "1.1.0", 3)
	if !slices.Equal(but, []uint8{0, 1, 2, 3}) {
		t.Errorf("what is handed in is changed: %d", but)
	}
	but[0] = 2
	wantTake(t, q, 0, nil, "", 3)
	vectors := [][]uint64{{2, 0, 0}, {0, 1, 9}, {9, 9, 9}}
	wantDrop(t, q, 1, 2, vectors[0][:1], vectors[1][:2])
	if fmt.Sprint(vectors) != "[[2 0 0] [0 1 9] [9 9 9]]" {
		t.Errorf("what is handed in is changed: %d", vectors)
	}
	vectors[0][0], vectors[1][1] = 9, 9
	wantPut(t, q, "0.1.0", 1, 3, 0)
	wantTake(t, q, 9, nil, "2.1.0 1.2.0 0.1.0", 0)
}

func TestListsOfOneMemory(t *testing.T) { // P0.4: frames whose lists lie in one another
	bytes, numbers, runs := []byte("abcdef"), []uint64{1, 2, 3, 4}, []api.Run{{From: 1, First: 2, Count: 3}, {From: 4, First: 5, Count: 6}}
	var l []api.Frame
	for at := range uint32(4) {
		f := chunk(1, 1, at)
		f.Data, f.Done, f.Held, f.Est, f.Aux = bytes[at:at+2], numbers[:at], numbers[at:], runs[:at/2], runs[at/2:]
		l = append(l, f)
	}
	want := texts(l)
	q := relay.New(9)
	q.Put(l...)
	spoil(l)
	got := q.Take(9)
	if !slices.Equal(texts(got), want) {
		t.Errorf("Take = %q, want %q", texts(got), want)
	}
	for i := range got {
		spoil(got[i : i+1 : i+1])
		if rest := texts(got[i+1:]); !slices.Equal(rest, want[i+1:]) {
			t.Errorf("two frames of one answer share memory: %q, want %q", rest, want[i+1:])
		}
	}
}

func TestNoTwoListsOfAnAnswerShareMemory(t *testing.T) { // P0.4
	numbers, runs := []uint64{1, 2}, []api.Run{{From: 1, First: 2, Count: 3}}
	f := chunk(1, 1, 0)
	f.Done, f.Held, f.Est, f.Aux = numbers, numbers, runs, runs
	q := relay.New(9)
	q.Put(f)
	x := q.Take(1)[0]
	fill(x.Done[:cap(x.Done)], 99)
	fill(x.Est[:cap(x.Est)], api.Run{})
	if fmt.Sprint(x.Held, x.Aux) != fmt.Sprint(numbers, runs) {
		t.Errorf("Held, Aux = %d, %v, want %d, %v", x.Held, x.Aux, numbers, runs)
	}
}

func TestAnswersShareNothing(t *testing.T) { // P0.4: with what is kept, and with one another
	q := relay.New(9)
	var all []string
	for i := range 9 {
		f := marked(chunk(uint8(i), 1, 0), i)
		all = append(all, text(f))
		q.Put(f)
	}
	one := q.Take(3)
	spoil(one)
	wantSizes(t, q, 6, 0)
	two := q.Take(2)
	three := q.Take(2)
	spoil(two)
	if got := texts(three); !slices.Equal(got, all[5:7]) {
		t.Errorf("two answers share memory: %q, want %q", got, all[5:7])
	}
	kept := texts(three)
	q.Put(row("0.1.0 5.1.0 6.1.0")...)
	four := q.Take(2)
	q.Drop([]uint64{9, 9})
	if got := texts(four); !slices.Equal(got, all[7:]) || !slices.Equal(texts(three), kept) {
		t.Errorf("what was answered is changed: %q, %q", got, texts(three))
	}
	spoil(three)
	wantTake(t, q, 9, nil, "5.1.0 6.1.0", 0)
}

func TestQueuesShareNothing(t *testing.T) { // P0.4, P0.6
	a, b := watch(t, 4), watch(t, 2)
	l := row("0.1.0 1.1.0 2.1.0")
	a.put(l...)
	b.put(l...)
	a.take(1)
	a.put(l[0])
	b.look()
	b.drop([]uint64{1})
	b.put(l[2])
	a.look()
	if x, y := a.drain(), b.drain(); x != "1.1.0 2.1.0 0.1.0" || y != "1.1.0 2.1.0" {
		t.Errorf("Take = %s, and %s", x, y)
	}
}

func TestSmallRows(t *testing.T) { // P16.1, P16.2: all rows of four calls of these
	calls := []func(w *watched){
		func(w *watched) { w.put(row("0.1.0")...) },
		func(w *watched) { w.put(row("0.1.1 1.1.0")...) },
		func(w *watched) { w.put(row("1.2.0 0.1.0 1.2.0 2.1.0")...) },
		func(w *watched) { w.put(row("2.1.0 1.1.0 0.2.0")...) },
		func(w *watched) { w.take(0, 1) },
		func(w *watched) { w.take(1) },
		func(w *watched) { w.take(1, 0) },
		func(w *watched) { w.take(2, 2, 1) },
		func(w *watched) { w.drop([]uint64{1}) },
		func(w *watched) { w.drop([]uint64{0, 2}, []uint64{0, 0, 1}) },
	}
	n := len(calls)
	for i := range n * n * n * n {
		for _, room := range []int{1, 3, 9} {
			w := watch(t, room)
			for rest, j := i, 0; j < 4; rest, j = rest/n, j+1 {
				calls[rest%n](w)
			}
			w.drain()
		}
	}
}

// someCall puts in, mostly, chunks of few payloads; sometimes chunks are taken, or dropped. It tells what came of it.
func someCall(dice *rand.Rand, w *watched) string {
	had, lost := len(w.there), w.lost
	switch dice.Intn(7) {
	case 0, 1, 2:
		var but []uint8
		for range max(0, dice.Intn(6)-3) {
			but = append(but, uint8(dice.Intn(4)))
		}
		took := len(row(w.take(dice.Intn(5)-1, but...)))
		return fmt.Sprint("taken ", took > 0, ", left out ", had-took > w.q.Len())
	case 3:
		var upto [][]uint64
		for range dice.Intn(3) {
			upto = append(upto, []uint64{uint64(dice.Intn(3)), uint64(dice.Intn(3)), uint64(dice.Intn(3)), uint64(dice.Intn(3))}[:dice.Intn(5)])
		}
		return fmt.Sprint("dropped ", w.drop(upto...) > 0)
	}
	var l []api.Frame
	for range dice.Intn(6) {
		l = append(l, chunk(uint8(dice.Intn(4)), uint64(dice.Intn(5)), uint32(dice.Intn(3))))
	}
	put := w.put(l...)
	return fmt.Sprint("put ", put > 0, ", lost ", w.lost > lost, ", there ", put+w.lost-lost < len(l))
}

func TestRandomRows(t *testing.T) { // P16.1, P16.2
	dice := rand.New(rand.NewSource(161))
	came := map[string]int{}
	for range 40 {
		for _, room := range []int{1, 2, 4, 9, 30, 60} {
			w := watch(t, room)
			for range 100 {
				came[someCall(dice, w)]++
			}
			w.drain()
		}
	}
	for _, what := range []string{
		"taken true, left out true", "taken true, left out false", "taken false, left out true", "dropped true", "dropped false",
		"put true, lost true, there true", "put true, lost true, there false", "put true, lost false, there true",
		"put false, lost true, there true", "put false, lost true, there false", "put false, lost false, there true",
	} {
		if came[what] < 100 {
			t.Errorf("of %q too few came: %v", what, came)
		}
	}
}

func TestNothingElseComesOut(t *testing.T) { // P16.2: told by what was put in alone: each once, in order, all that went being told
	dice := rand.New(rand.NewSource(162))
	for range 200 {
		q := relay.New(1 + dice.Intn(20))
		put, taken, gone := 0, 0, 0
		for i := range 60 {
			f := marked(chunk(uint8(dice.Intn(4)), uint64(dice.Intn(3)+1), uint32(dice.Intn(3))), i+1)
			put += q.Put(f)
			before, most := q.Len(), dice.Intn(3)
			l := q.Take(most, uint8(dice.Intn(9)))
			for _, x := range l {
				mark := int(x.Seq)
				if mark <= taken || mark > i+1 || text(x) != text(marked(chunk(x.ID.From, x.ID.Seq, x.At), mark)) {
					t.Fatalf("%s is answered behind the %d., of %d", text(x), taken, i+1)
				}
				taken = mark
			}
			if len(l) > most {
				t.Fatalf("%d are answered, of %d at most", len(l), most)
			}
			gone += before - q.Len()
			gone += q.Drop([]uint64{uint64(dice.Intn(2))})
			if put-gone != q.Len() {
				t.Fatalf("%d were put in, %d went, and %d are there", put, gone, q.Len())
			}
		}
	}
}

func TestAnswersHangOnTheRowOfCallsAlone(t *testing.T) { // P0.6: not on the order of maps
	var want []string
	for range 3 {
		dice := rand.New(rand.NewSource(163))
		w := watch(t, 12)
		var got []string
		for range 300 {
			got = append(got, fmt.Sprint(someCall(dice, w), w.q.Len(), w.q.Lost()))
		}
		got = append(got, w.drain())
		if want != nil && !slices.Equal(got, want) {
			t.Errorf("one row of calls, two queues: %q, %q", got, want)
		}
		want = got
	}
}

// FuzzRow reads a room, and calls of bytes: what is called, and what of it.
func FuzzRow(f *testing.F) { // P16.1, P16.2
	f.Add([]byte{4, 0, 1, 1, 0, 1, 1, 1, 2, 1, 3, 1, 9, 2})
	f.Add([]byte{2, 8, 1, 1, 16, 2, 0, 24, 0, 3, 3, 2, 0, 4, 1, 1, 5, 2, 2, 6, 9, 9})
	f.Add([]byte{0, 32, 255, 255, 3, 3, 255, 6, 255, 255, 7, 0, 0})
	f.Fuzz(func(t *testing.T, b []byte) {
		if len(b) < 1 {
			return
		}
		w := watch(t, int(b[0])-2)
		for b = b[1:]; len(b) >= 3 && len(w.calls) < 60; b = b[3:] {
			x, y := b[1], b[2]
			switch b[0] % 8 {
			case 3:
				w.take(int(y) - 1)
			case 4:
				w.take(int(y)-1, x)
			case 5:
				w.take(int(y%8), x, x+1, x/2)
			case 6:
				w.drop(append(make([]uint64, x), uint64(y)))
			case 7:
				w.drop([]uint64{uint64(x), uint64(y)}, []uint64{uint64(y), 0, uint64(x), uint64(y)}, nil)
			default:
				var l []api.Frame
				for i := range b[0] / 8 {
					l = append(l, chunk(x%8, uint64(y/8), uint32(i%5)), chunk(x/8, uint64(y%8), uint32(i)))
				}
				w.put(l...)
			}
		}
		w.drain()
	})
}
