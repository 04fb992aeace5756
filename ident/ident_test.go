package ident_test

import (
	"math"
	"math/big"
	"math/rand"
	"slices"
	"testing"

	"unison/api"
	"unison/ident"
)

const (
	lastFrom = api.MaxProcs - 1
	huge     = math.MaxUint64
)

// edges are numbers at and beside those that the chapter names, and such whose sums pass 64 bits.
func edges() []uint64 {
	return []uint64{0, 1, 2, 3, api.MaxSeq - 2, api.MaxSeq - 1, api.MaxSeq, api.MaxSeq + 1, 1 << 63, huge - api.MaxSeq, huge - 2, huge - 1, huge}
}

// senders are those at and beside MaxProcs, and ordinary ones.
func senders() []uint8 { return []uint8{0, 1, lastFrom - 1, lastFrom, lastFrom + 1, 255} }

func edgeIDs() []api.ID {
	var l []api.ID
	for _, from := range senders() {
		for _, seq := range edges() {
			l = append(l, api.ID{From: from, Seq: seq})
		}
	}
	return l
}

func edgeRuns() []api.Run {
	var l []api.Run
	for _, from := range senders() {
		for _, first := range edges() {
			for _, count := range edges() {
				l = append(l, api.Run{From: from, First: first, Count: count})
			}
		}
	}
	return l
}

// wrongRuns may not be, each for another reason.
func wrongRuns() []api.Run {
	return []api.Run{
		{},
		{From: 1, First: 1, Count: 0},
		{From: 1, First: 0, Count: 1},
		{From: 64, First: 1, Count: 1},
		{From: 255, First: 5, Count: 2},
		{From: 1, First: 2, Count: api.MaxSeq},
		{From: 1, First: api.MaxSeq, Count: 2},
		{From: 1, First: api.MaxSeq + 1, Count: 1},
		{From: 1, First: 1, Count: api.MaxSeq + 1},
		{From: 1, First: 1, Count: huge},
		{From: 1, First: 2, Count: huge},
		{From: 1, First: huge, Count: 1},
		{From: 1, First: huge, Count: 2},
		{From: 1, First: huge, Count: huge},
		{From: 1, First: 1 << 63, Count: 1 << 63},
		{From: 1, First: huge - api.MaxSeq + 2, Count: api.MaxSeq},
	}
}

// wrongIDs may be among no number of processes.
func wrongIDs() []api.ID {
	return []api.ID{{}, {From: 3}, {From: 64, Seq: 1}, {From: 255, Seq: 7}, {Seq: api.MaxSeq + 1}, {From: 63, Seq: huge}, {From: 64}, {From: 255, Seq: huge}}
}

// lastSeq is the last Seq of a run, as great as it would be.
func lastSeq(x api.Run) *big.Int {
	n := new(big.Int).SetUint64(x.First)
	n.Add(n, new(big.Int).SetUint64(x.Count))
	return n.Sub(n, big.NewInt(1))
}

func toldRun(x api.Run) bool {
	return x.From < 64 && x.First > 0 && x.Count > 0 && lastSeq(x).Cmp(big.NewInt(1<<62)) <= 0
}

func toldRows(l []api.Run) bool {
	for i, x := range l {
		if !toldRun(x) {
			return false
		}
		if i == 0 || l[i-1].From < x.From {
			continue
		}
		gap := new(big.Int).Sub(new(big.Int).SetUint64(x.First), lastSeq(l[i-1]))
		if l[i-1].From > x.From || gap.Cmp(big.NewInt(1)) <= 0 {
			return false
		}
	}
	return true
}

func toldHas(id api.ID, l []api.Run) bool {
	for _, x := range l {
		if toldRun(x) && x.From == id.From && x.First <= id.Seq && new(big.Int).SetUint64(id.Seq).Cmp(lastSeq(x)) <= 0 {
			return true
		}
	}
	return false
}

func toldCount(l []api.Run) uint64 {
	n := new(big.Int)
	for _, x := range l {
		if toldRun(x) {
			n.Add(n, new(big.Int).SetUint64(x.Count))
		}
	}
	if n.Cmp(big.NewInt(1<<62)) > 0 {
		return 1 << 62
	}
	return n.Uint64()
}

// toldList is for runs that are short, or may not be.
func toldList(most int, l []api.Run) []api.ID {
	var ids []api.ID
	for _, x := range l {
		if !toldRun(x) {
			return nil
		}
		for seq := x.First; big.NewInt(int64(seq)).Cmp(lastSeq(x)) <= 0; seq++ {
			ids = append(ids, api.ID{From: x.From, Seq: seq})
		}
	}
	if len(ids) > most {
		return nil
	}
	return ids
}

// toldIDs are those of l that may be, each once, in order.
func toldIDs(l []api.ID) []api.ID {
	var ids []api.ID
	for _, id := range l {
		if id.From >= 64 || id.Seq < 1 || id.Seq > 1<<62 {
			continue
		}
		at := 0
		for at < len(ids) && (ids[at].From < id.From || ids[at].From == id.From && ids[at].Seq < id.Seq) {
			at++
		}
		if at == len(ids) || ids[at] != id {
			ids = slices.Insert(ids, at, id)
		}
	}
	return ids
}

// wantJoined asks for rows that list the ids, each once, in order.
func wantJoined(t *testing.T, l []api.ID) {
	t.Helper()
	rows, want := ident.Join(l...), toldIDs(l)
	if !toldRows(rows) || !ident.Rows(rows...) {
		t.Errorf("Join(%v) = %v: no rows", l, rows)
	}
	if got := toldList(math.MaxInt, rows); !slices.Equal(got, want) {
		t.Errorf("Join(%v) = %v: these have %v, want %v", l, rows, got, want)
	}
	if got := ident.List(len(want), rows...); !slices.Equal(got, want) {
		t.Errorf("List of Join(%v) = %v, want %v", l, got, want)
	}
	if got := ident.Count(rows...); got != uint64(len(want)) {
		t.Errorf("Count of Join(%v) = %d, want %d", l, got, len(want))
	}
	if again := ident.Join(want...); !slices.Equal(again, rows) {
		t.Errorf("Join of what rows list: %v, want %v", again, rows)
	}
	for _, id := range l {
		if ident.Has(id, rows...) != slices.Contains(want, id) {
			t.Errorf("Join(%v) = %v: has %v: %v", l, rows, id, ident.Has(id, rows...))
		}
	}
}

// wantAsTold holds every call that takes runs against what the chapter says; the runs are short, or may not be.
func wantAsTold(t *testing.T, l ...api.Run) {
	t.Helper()
	if got, want := ident.Rows(l...), toldRows(l); got != want {
		t.Errorf("Rows(%v) = %v, want %v", l, got, want)
	}
	if got, want := ident.Count(l...), toldCount(l); got != want {
		t.Errorf("Count(%v) = %d, want %d", l, got, want)
	}
	all := int(toldCount(l))
	for _, most := range []int{math.MinInt, -1, 0, 1, all - 1, all, all + 1, math.MaxInt} {
		if got, want := ident.List(most, l...), toldList(most, l); !slices.Equal(got, want) {
			t.Errorf("List(%d, %v) = %v, want %v", most, l, got, want)
		}
	}
}

func TestMay(t *testing.T) { // P3.1
	for _, n := range []int{math.MinInt, -65, -64, -1, 0, 1, 2, 3, 62, 63, 64, 65, 128, 255, 256, 257, 1 << 32, math.MaxInt} {
		for from := range 256 {
			for _, seq := range edges() {
				want := from < n && from < 64 && seq > 0 && seq <= 1<<62
				if got := ident.May(api.ID{From: uint8(from), Seq: seq}, n); got != want {
					t.Errorf("May({%d %d}, %d) = %v, want %v", from, seq, n, got, want)
				}
			}
		}
	}
}

func TestMayOfPlainIDs(t *testing.T) { // P3.1
	for _, c := range []struct {
		id   api.ID
		n    int
		want bool
	}{
		{api.ID{From: 0, Seq: 1}, 1, true},
		{api.ID{From: 2, Seq: 9}, 3, true},
		{api.ID{From: 3, Seq: 9}, 3, false},
		{api.ID{From: lastFrom, Seq: api.MaxSeq}, api.MaxProcs, true},
		{api.ID{From: lastFrom, Seq: api.MaxSeq}, api.MaxProcs - 1, false},
		{api.ID{From: lastFrom, Seq: api.MaxSeq + 1}, api.MaxProcs, false},
		{api.ID{From: api.MaxProcs, Seq: 1}, api.MaxProcs + 1, false},
		{api.ID{From: 0, Seq: 1}, 0, false},
		{api.ID{From: 0, Seq: 1}, -1, false},
		{api.ID{}, 1, false},
		{api.ID{From: 1}, 3, false},
	} {
		if got := ident.May(c.id, c.n); got != c.want {
			t.Errorf("May(%v, %d) = %v", c.id, c.n, got)
		}
	}
}

func TestLess(t *testing.T) { // P3.1
	for _, c := range []struct {
		a, b api.ID
		want bool
	}{
		{api.ID{From: 0, Seq: 1}, api.ID{From: 0, Seq: 2}, true},
		{api.ID{From: 0, Seq: 2}, api.ID{From: 0, Seq: 1}, false},
		{api.ID{From: 0, Seq: 2}, api.ID{From: 1, Seq: 1}, true},
		{api.ID{From: 1, Seq: 1}, api.ID{From: 0, Seq: 2}, false},
		{api.ID{From: 4, Seq: 4}, api.ID{From: 4, Seq: 4}, false},
		{api.ID{From: 0, Seq: api.MaxSeq}, api.ID{From: lastFrom, Seq: 1}, true},
		{api.ID{From: 254, Seq: huge}, api.ID{From: 255}, true},
		{api.ID{From: 255}, api.ID{From: 254, Seq: huge}, false},
		{api.ID{From: 255}, api.ID{From: 255, Seq: huge}, true},
	} {
		if got := ident.Less(c.a, c.b); got != c.want {
			t.Errorf("Less(%v, %v) = %v", c.a, c.b, got)
		}
	}
}

func TestLessIsAnOrder(t *testing.T) { // P3.1
	l := edgeIDs() // they rise by From, then by Seq
	for i, a := range l {
		for j, b := range l {
			if got := ident.Less(a, b); got != (i < j) {
				t.Errorf("Less(%v, %v) = %v", a, b, got)
			}
		}
	}
}

func TestRun(t *testing.T) { // P3.1
	for _, x := range edgeRuns() {
		if got := ident.Run(x); got != toldRun(x) {
			t.Errorf("Run(%v) = %v", x, got)
		}
	}
	for _, x := range []api.Run{
		{First: 1, Count: 1},
		{From: 5, First: 3, Count: 4},
		{From: lastFrom, First: api.MaxSeq, Count: 1},
		{From: lastFrom, First: api.MaxSeq - 1, Count: 2},
		{First: 1, Count: api.MaxSeq},
		{First: 2, Count: api.MaxSeq - 1},
	} {
		if !ident.Run(x) {
			t.Errorf("Run(%v): may not be", x)
		}
	}
	for _, x := range wrongRuns() {
		if ident.Run(x) {
			t.Errorf("Run(%v): may be", x)
		}
	}
}

func TestRows(t *testing.T) { // P3.1
	for name, l := range map[string][]api.Run{
		"none":                          {},
		"one":                           {{From: 1, First: 4, Count: 2}},
		"one that ends at MaxSeq":       {{First: api.MaxSeq, Count: 1}},
		"one of all":                    {{From: lastFrom, First: 1, Count: api.MaxSeq}},
		"one between":                   {{First: 1, Count: 2}, {First: 4, Count: 1}},
		"far between":                   {{First: 1, Count: 2}, {First: 40, Count: 7}, {First: api.MaxSeq, Count: 1}},
		"two senders":                   {{First: 9, Count: 2}, {From: 1, First: 1, Count: 1}},
		"another one's next":            {{First: 1, Count: 2}, {From: 1, First: 3, Count: 2}},
		"another one's same":            {{First: 1, Count: 2}, {From: 1, First: 1, Count: 2}},
		"another one behind MaxSeq":     {{First: 1, Count: api.MaxSeq}, {From: 1, First: 1, Count: api.MaxSeq}},
		"the last but one behind a gap": {{First: 1, Count: api.MaxSeq - 2}, {First: api.MaxSeq, Count: 1}},
		"the first and the last sender": {{First: 1, Count: 1}, {From: lastFrom, First: 1, Count: 1}},
	} {
		if !ident.Rows(l...) {
			t.Errorf("%s: Rows(%v): no rows", name, l)
		}
	}
	for name, l := range map[string][]api.Run{
		"touch":               {{First: 1, Count: 2}, {First: 3, Count: 1}},
		"touch at MaxSeq":     {{First: 1, Count: api.MaxSeq - 1}, {First: api.MaxSeq, Count: 1}},
		"one id in common":    {{First: 1, Count: 2}, {First: 2, Count: 2}},
		"MaxSeq in common":    {{First: 1, Count: api.MaxSeq}, {First: api.MaxSeq, Count: 1}},
		"the same":            {{First: 3, Count: 2}, {First: 3, Count: 2}},
		"one in the other":    {{First: 1, Count: 9}, {First: 3, Count: 2}},
		"out of order":        {{First: 4, Count: 1}, {First: 1, Count: 1}},
		"behind, and touch":   {{First: 4, Count: 1}, {First: 3, Count: 1}},
		"senders fall":        {{From: 1, First: 1, Count: 1}, {From: 0, First: 5, Count: 1}},
		"a sender comes back": {{First: 1, Count: 1}, {From: 1, First: 1, Count: 1}, {First: 5, Count: 1}},
		"the last two touch":  {{First: 1, Count: 1}, {First: 5, Count: 1}, {First: 6, Count: 1}},
	} {
		if ident.Rows(l...) {
			t.Errorf("%s: Rows(%v): rows", name, l)
		}
	}
}

func TestRowsAtEdges(t *testing.T) { // P3.1
	l := slices.DeleteFunc(edgeRuns(), func(x api.Run) bool { return x.From == 1 || x.From == 255 })
	for _, a := range l {
		for _, b := range l {
			if two := []api.Run{a, b}; ident.Rows(two...) != toldRows(two) {
				t.Fatalf("Rows(%v) = %v", two, ident.Rows(two...))
			}
		}
	}
}

func TestWrongRunsAmongOthers(t *testing.T) { // P3.1
	good := []api.Run{{First: 3, Count: 2}, {From: 2, First: 1, Count: 1}}
	for _, wrong := range wrongRuns() {
		for at := range len(good) + 1 {
			l := slices.Insert(slices.Clone(good), at, wrong)
			if ident.Rows(l...) {
				t.Errorf("Rows(%v): rows", l)
			}
			if got := ident.List(math.MaxInt, l...); len(got) != 0 {
				t.Errorf("List(%v) = %v", l, got)
			}
			if got := ident.Count(l...); got != 3 {
				t.Errorf("Count(%v) = %d, want 3", l, got)
			}
			if !ident.Has(api.ID{Seq: 4}, l...) || !ident.Has(api.ID{From: 2, Seq: 1}, l...) {
				t.Errorf("Has(%v): not what right ones have", l)
			}
			for _, id := range []api.ID{{From: wrong.From, Seq: wrong.First}, {From: wrong.From, Seq: wrong.First + wrong.Count - 1}, {From: 1, Seq: 1}, {From: 1, Seq: 7}} {
				if ident.Has(id, l...) {
					t.Errorf("Has(%v, %v): what a wrong one has", id, l)
				}
			}
		}
		wantAsTold(t, wrong)
	}
}

func TestRunsTogetherAsTold(t *testing.T) { // P3.1
	var small []api.Run // all that may be, and may not be, of two senders
	for from := range 2 {
		for first := range 4 {
			for count := range 4 {
				small = append(small, api.Run{From: uint8(from), First: uint64(first), Count: uint64(count)})
			}
		}
	}
	wantAsTold(t)
	for _, a := range small {
		wantAsTold(t, a)
		for _, b := range small {
			wantAsTold(t, a, b)
			for _, id := range []api.ID{{}, {Seq: 1}, {Seq: 2}, {Seq: 3}, {Seq: 6}, {Seq: 7}, {From: 1}, {From: 1, Seq: 1}, {From: 1, Seq: 4}, {From: 2, Seq: 1}} {
				if got := ident.Has(id, a, b); got != toldHas(id, []api.Run{a, b}) {
					t.Errorf("Has(%v, %v, %v) = %v", id, a, b, got)
				}
			}
		}
	}
	dice := rand.New(rand.NewSource(3))
	for range 2000 {
		l := make([]api.Run, dice.Intn(7))
		for i := range l {
			l[i] = small[dice.Intn(len(small))]
			l[i].From = uint8(dice.Intn(4)) * 21
			l[i].First += uint64(dice.Intn(9))
		}
		wantAsTold(t, l...)
	}
}

func TestJoin(t *testing.T) { // P3.1, P3.2
	for _, c := range []struct {
		l    []api.ID
		want []api.Run
	}{
		{nil, nil},
		{[]api.ID{}, nil},
		{[]api.ID{{Seq: 2}, {Seq: 1}, {Seq: 5}}, []api.Run{{First: 1, Count: 2}, {First: 5, Count: 1}}},
		{[]api.ID{{Seq: 7}}, []api.Run{{First: 7, Count: 1}}},
		{[]api.ID{{Seq: 7}, {Seq: 7}, {Seq: 7}}, []api.Run{{First: 7, Count: 1}}},
		{[]api.ID{{Seq: 3}, {Seq: 2}, {Seq: 3}, {Seq: 1}, {Seq: 2}}, []api.Run{{First: 1, Count: 3}}},
		{[]api.ID{{From: 1, Seq: 2}, {From: 0, Seq: 1}}, []api.Run{{First: 1, Count: 1}, {From: 1, First: 2, Count: 1}}},
		{[]api.ID{{From: 9, Seq: 1}, {From: 2, Seq: 4}, {From: 9, Seq: 2}, {From: 2, Seq: 1}}, []api.Run{{From: 2, First: 1, Count: 1}, {From: 2, First: 4, Count: 1}, {From: 9, First: 1, Count: 2}}},
		{[]api.ID{{Seq: api.MaxSeq}, {Seq: 1}, {Seq: api.MaxSeq - 1}}, []api.Run{{First: 1, Count: 1}, {First: api.MaxSeq - 1, Count: 2}}},
		{[]api.ID{{From: 1, Seq: 1}, {From: 0, Seq: api.MaxSeq}}, []api.Run{{First: api.MaxSeq, Count: 1}, {From: 1, First: 1, Count: 1}}},
		{[]api.ID{{From: lastFrom, Seq: api.MaxSeq}, {From: lastFrom, Seq: 1}}, []api.Run{{From: lastFrom, First: 1, Count: 1}, {From: lastFrom, First: api.MaxSeq, Count: 1}}},
	} {
		if got := ident.Join(c.l...); !slices.Equal(got, c.want) {
			t.Errorf("Join(%v) = %v, want %v", c.l, got, c.want)
		}
		wantJoined(t, c.l)
	}
}

func TestJoinLeavesOut(t *testing.T) { // P3.1, P3.2
	if got := ident.Join(wrongIDs()...); len(got) != 0 {
		t.Errorf("Join of wrong ids: %v", got)
	}
	for _, wrong := range wrongIDs() {
		if got := ident.Join(wrong); len(got) != 0 {
			t.Errorf("Join(%v) = %v", wrong, got)
		}
		good := []api.ID{{Seq: 2}, {From: lastFrom, Seq: api.MaxSeq}, {Seq: 1}}
		for at := range len(good) + 1 {
			l := slices.Insert(slices.Clone(good), at, wrong)
			if got := ident.Join(l...); !slices.Equal(got, []api.Run{{First: 1, Count: 2}, {From: lastFrom, First: api.MaxSeq, Count: 1}}) {
				t.Errorf("Join(%v) = %v", l, got)
			}
		}
	}
	wantJoined(t, edgeIDs())
}

func TestJoinOfRolledIDs(t *testing.T) { // P3.2
	dice := rand.New(rand.NewSource(4))
	for range 2000 {
		l := make([]api.ID, dice.Intn(60))
		for i := range l {
			l[i] = api.ID{From: uint8(dice.Intn(4)) * 22, Seq: uint64(dice.Intn(14))}
			if dice.Intn(4) == 0 {
				l[i].Seq += api.MaxSeq - 9
			}
		}
		wantJoined(t, l)
		dice.Shuffle(len(l), func(i, j int) { l[i], l[j] = l[j], l[i] })
		wantJoined(t, l)
	}
}

func TestListIsJoinedAgain(t *testing.T) { // P3.2
	dice := rand.New(rand.NewSource(5))
	for range 500 {
		var rows []api.Run
		for from := range uint8(4) {
			next := uint64(1)
			for range dice.Intn(4) {
				x := api.Run{From: from, First: next + uint64(dice.Intn(3)), Count: uint64(1 + dice.Intn(5))}
				rows = append(rows, x)
				next = x.First + x.Count + 1
			}
		}
		if got := ident.Join(ident.List(math.MaxInt, rows...)...); !slices.Equal(got, rows) {
			t.Fatalf("Join of what %v list: %v", rows, got)
		}
	}
}

func TestListRunByRun(t *testing.T) { // P3.1
	l := []api.Run{{From: 1, First: 4, Count: 2}, {From: 0, First: 9, Count: 1}, {From: 1, First: 5, Count: 2}, {From: 1, First: 1, Count: 1}}
	want := []api.ID{{From: 1, Seq: 4}, {From: 1, Seq: 5}, {From: 0, Seq: 9}, {From: 1, Seq: 5}, {From: 1, Seq: 6}, {From: 1, Seq: 1}}
	if got := ident.List(6, l...); !slices.Equal(got, want) {
		t.Errorf("List(6, %v) = %v, want %v", l, got, want)
	}
	if got := ident.List(5, l...); len(got) != 0 {
		t.Errorf("List(5, %v) = %v, want none", l, got)
	}
}

func TestListMost(t *testing.T) { // P3.1
	const size = 1000
	one := []api.Run{{From: 3, First: 11, Count: size}}
	two := []api.Run{{From: 3, First: 11, Count: size - 1}, {From: 7, First: 1, Count: 1}}
	for _, l := range [][]api.Run{one, two} {
		for _, most := range []int{size, size + 1, api.MaxBatch, math.MaxInt32, math.MaxInt} {
			if got := ident.List(most, l...); !slices.Equal(got, toldList(size, l)) {
				t.Errorf("List(%d, %v): %d ids", most, l, len(got))
			}
		}
		for _, most := range []int{size - 1, 1, 0, -1, -size, math.MinInt32, math.MinInt} {
			if got := ident.List(most, l...); len(got) != 0 {
				t.Errorf("List(%d, %v): %d ids, want none", most, l, len(got))
			}
		}
	}
	for _, most := range []int{math.MinInt, -1, 0, 1, math.MaxInt} {
		if got := ident.List(most); len(got) != 0 {
			t.Errorf("List(%d) = %v", most, got)
		}
	}
	end := api.Run{From: lastFrom, First: api.MaxSeq - 1, Count: 2}
	if got := ident.List(2, end); !slices.Equal(got, []api.ID{{From: lastFrom, Seq: api.MaxSeq - 1}, {From: lastFrom, Seq: api.MaxSeq}}) {
		t.Errorf("List(2, %v) = %v", end, got)
	}
}

func TestListOfTooMany(t *testing.T) { // P3.1, P0.1
	all := api.Run{First: 1, Count: api.MaxSeq}
	for _, l := range [][]api.Run{{all}, {all, all, all, all}, {all, all, all, all, {First: 1, Count: 1}}, {{First: 1, Count: 1}, all}, {{First: 1, Count: 1 << 32}}} {
		// The last two mosts would let more in than an answer may have: the call ends, for all that.
		for _, most := range []int{math.MinInt, -1, 0, 1, api.MaxBatch, math.MaxInt32, api.MaxSeq, math.MaxInt} {
			if got := ident.List(most, l...); len(got) != 0 {
				t.Errorf("List(%d, %v): %d ids", most, l, len(got))
			}
		}
	}
}

func TestHas(t *testing.T) { // P3.1
	l := []api.Run{{From: 2, First: 6, Count: 1}, {From: 1, First: 3, Count: 3}, {From: 1, First: 5, Count: 2}, {From: lastFrom, First: api.MaxSeq - 1, Count: 2}}
	for _, id := range []api.ID{{From: 1, Seq: 3}, {From: 1, Seq: 4}, {From: 1, Seq: 5}, {From: 1, Seq: 6}, {From: 2, Seq: 6}, {From: lastFrom, Seq: api.MaxSeq - 1}, {From: lastFrom, Seq: api.MaxSeq}} {
		if !ident.Has(id, l...) {
			t.Errorf("Has(%v, %v): no", id, l)
		}
	}
	for _, id := range []api.ID{{From: 1, Seq: 2}, {From: 1, Seq: 7}, {From: 2, Seq: 5}, {From: 2, Seq: 7}, {From: 0, Seq: 6}, {From: 3, Seq: 6}, {From: lastFrom, Seq: api.MaxSeq - 2}, {From: lastFrom, Seq: api.MaxSeq + 1}, {From: lastFrom, Seq: 0}, {From: lastFrom, Seq: huge}, {From: lastFrom - 1, Seq: api.MaxSeq}} {
		if ident.Has(id, l...) {
			t.Errorf("Has(%v, %v): yes", id, l)
		}
		if ident.Has(id) {
			t.Errorf("Has(%v) of no runs: yes", id)
		}
	}
}

func TestHasAtEdges(t *testing.T) { // P3.1
	for _, x := range edgeRuns() {
		for _, id := range edgeIDs() {
			if got := ident.Has(id, x); got != toldHas(id, []api.Run{x}) {
				t.Fatalf("Has(%v, %v) = %v", id, x, got)
			}
		}
	}
}

func TestCount(t *testing.T) { // P3.1
	all := api.Run{First: 1, Count: api.MaxSeq}
	one := api.Run{From: lastFrom, First: api.MaxSeq, Count: 1}
	less := api.Run{From: 3, First: 2, Count: api.MaxSeq - 1}
	wrong := api.Run{From: 1, First: 2, Count: api.MaxSeq}
	for _, c := range []struct {
		l    []api.Run
		want uint64
	}{
		{nil, 0},
		{[]api.Run{}, 0},
		{[]api.Run{one}, 1},
		{[]api.Run{one, one}, 2},
		{[]api.Run{{First: 1, Count: 3}, {First: 2, Count: 3}, {From: 1, First: 9, Count: 5}}, 11},
		{[]api.Run{less}, api.MaxSeq - 1},
		{[]api.Run{less, one}, api.MaxSeq},
		{[]api.Run{one, less}, api.MaxSeq},
		{[]api.Run{all}, api.MaxSeq},
		{[]api.Run{all, one}, api.MaxSeq},
		{[]api.Run{one, all}, api.MaxSeq},
		{[]api.Run{less, one, one}, api.MaxSeq},
		{[]api.Run{all, all}, api.MaxSeq},
		{[]api.Run{all, all, all, all}, api.MaxSeq},
		{[]api.Run{all, all, all, all, one}, api.MaxSeq},
		{[]api.Run{wrong}, 0},
		{[]api.Run{wrong, one, wrong, wrong, one, wrong, wrong}, 2},
		{[]api.Run{wrong, less, wrong}, api.MaxSeq - 1},
		{wrongRuns(), 0},
	} {
		if got := ident.Count(c.l...); got != c.want {
			t.Errorf("Count(%v) = %d, want %d", c.l, got, c.want)
		}
	}
}

func TestCountAtEdges(t *testing.T) { // P3.1
	l := edgeRuns()
	dice := rand.New(rand.NewSource(6))
	for range 5000 {
		some := make([]api.Run, dice.Intn(8))
		for i := range some {
			some[i] = l[dice.Intn(len(l))]
		}
		if got := ident.Count(some...); got != toldCount(some) {
			t.Fatalf("Count(%v) = %d, want %d", some, got, toldCount(some))
		}
	}
}

func TestNoListIsAnEmptyOne(t *testing.T) { // P0.5
	for _, runs := range [][]api.Run{nil, {}} {
		if !ident.Rows(runs...) || len(ident.List(1, runs...)) != 0 || ident.Has(api.ID{Seq: 1}, runs...) || ident.Count(runs...) != 0 {
			t.Errorf("no runs: %v", runs)
		}
	}
	for _, ids := range [][]api.ID{nil, {}} {
		if len(ident.Join(ids...)) != 0 {
			t.Errorf("no ids: %v", ids)
		}
	}
}

func TestListsAreLeftAsTheyWere(t *testing.T) { // P0.4
	ids := []api.ID{{From: 1, Seq: 3}, {}, {From: 1, Seq: 2}, {From: 0, Seq: 9}, {From: 64, Seq: 1}, {From: 1, Seq: 2}, {From: 0, Seq: 1}, {From: 7, Seq: 7}}
	keptIDs := slices.Clone(ids)
	ident.Join(ids[:6]...)
	if !slices.Equal(ids, keptIDs) {
		t.Errorf("Join changed what was handed in: %v", ids)
	}
	runs := []api.Run{{From: 1, First: 3, Count: 2}, {}, {From: 0, First: 9, Count: 1}, {From: 64, First: 1, Count: 1}, {From: 0, First: 1, Count: 1}}
	keptRuns := slices.Clone(runs)
	for size := range len(runs) {
		ident.Rows(runs[:size]...)
		ident.List(9, runs[:size]...)
		ident.Has(api.ID{Seq: 9}, runs[:size]...)
		ident.Count(runs[:size]...)
		if !slices.Equal(runs, keptRuns) {
			t.Errorf("runs that were handed in are changed: %v", runs)
		}
	}
}

func TestAnswersAreNewMemory(t *testing.T) { // P0.4
	ids := []api.ID{{Seq: 1}, {Seq: 2}, {From: 1, Seq: 1}}
	rows := []api.Run{{First: 1, Count: 2}, {From: 1, First: 1, Count: 1}}
	joined, again := ident.Join(ids...), ident.Join(ids...)
	listed, twice := ident.List(3, rows...), ident.List(3, rows...)
	joined, listed = joined[:cap(joined)], listed[:cap(listed)]
	for i := range joined {
		joined[i] = api.Run{From: 9, First: 9, Count: 9}
	}
	for i := range listed {
		listed[i] = api.ID{From: 9, Seq: 9}
	}
	if !slices.Equal(again, rows) || !slices.Equal(twice, ids) {
		t.Errorf("answers share memory: %v, %v", again, twice)
	}
	if !slices.Equal(ident.Join(ids...), rows) || !slices.Equal(ident.List(3, rows...), ids) {
		t.Error("an answer that was written to is told again")
	}
	clear(ids)
	clear(rows)
	if len(again) != 2 || again[0].Count != 2 || len(twice) != 3 || twice[2].From != 1 {
		t.Errorf("answers hang on what was handed in: %v, %v", again, twice)
	}
}

func TestAnswersHangOnArgumentsAlone(t *testing.T) { // P0.6
	l := edgeIDs()
	first := ident.Join(l...)
	for range 3 {
		ident.Join(api.ID{Seq: 5}, api.ID{})
		ident.List(3, api.Run{First: 1, Count: 4})
		if got := ident.Join(l...); !slices.Equal(got, first) {
			t.Errorf("Join hangs on earlier calls: %v, %v", got, first)
		}
		slices.Reverse(l)
	}
}

// idsOf reads ids from bytes, two bytes each: near ones, great ones, and wrong ones.
func idsOf(b []byte) []api.ID {
	var l []api.ID
	for ; len(b) >= 2; b = b[2:] {
		id := api.ID{From: b[0] & 127, Seq: uint64(b[1] & 63)}
		switch b[1] >> 6 {
		case 2:
			id.Seq += api.MaxSeq - 32
		case 3:
			id.Seq = huge - id.Seq
		}
		l = append(l, id)
	}
	return l
}

func FuzzJoin(f *testing.F) { // P3.1, P3.2
	f.Add([]byte{0, 2, 0, 1, 0, 5})
	f.Add([]byte{63, 160, 63, 161, 64, 1, 0, 0, 1, 255, 63, 159})
	f.Fuzz(func(t *testing.T, b []byte) { wantJoined(t, idsOf(b)) })
}

func FuzzRuns(f *testing.F) { // P3.1
	f.Add(uint8(0), uint64(1), uint64(2), uint8(0), uint64(3), uint64(1), uint8(0), uint64(2))
	f.Add(uint8(63), uint64(1<<62), uint64(1), uint8(1), uint64(1), uint64(1<<62), uint8(63), uint64(1<<62))
	f.Add(uint8(64), uint64(huge), uint64(huge), uint8(255), uint64(0), uint64(0), uint8(64), uint64(huge-1))
	f.Fuzz(func(t *testing.T, from uint8, first, count uint64, other uint8, begin, size uint64, by uint8, seq uint64) {
		l := []api.Run{{From: from, First: first, Count: count}, {From: other, First: begin, Count: size}}
		id := api.ID{From: by, Seq: seq}
		if ident.Run(l[0]) != toldRun(l[0]) || ident.Rows(l...) != toldRows(l) || ident.Has(id, l...) != toldHas(id, l) || ident.Count(l...) != toldCount(l) {
			t.Fatalf("%v, %v: %v, %v, %v, %d", l, id, ident.Run(l[0]), ident.Rows(l...), ident.Has(id, l...), ident.Count(l...))
		}
		if toldCount(l) <= 1<<12 {
			wantAsTold(t, l...)
		}
	})
}
