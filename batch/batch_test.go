package batch_test

import (
	"cmp"
	"math"
	"math/big"
	"math/rand"
	"slices"
	"testing"

	"unison/api"
	"unison/batch"
)

const (
	lastPlace = api.MaxProcs - 1
	lastSeq   = uint64(api.MaxSeq)
	mostIDs   = api.MaxBatch
	huge      = math.MaxUint64
)

func run(from uint8, first, count uint64) api.Run {
	return api.Run{From: from, First: first, Count: count}
}

func id(from uint8, seq uint64) api.ID { return api.ID{From: from, Seq: seq} }

// same is a vector of so many places with one number.
func same(size int, n uint64) []uint64 {
	return slices.Repeat([]uint64{n}, size)
}

func number(n uint64) *big.Int { return new(big.Int).SetUint64(n) }

// toldLast is a run's last Seq as great as it is.
func toldLast(x api.Run) *big.Int {
	last := new(big.Int).Add(number(x.First), number(x.Count))
	return last.Sub(last, big.NewInt(1))
}

func toldRun(x api.Run) bool {
	return x.From < 64 && x.First >= 1 && x.Count >= 1 && toldLast(x).Cmp(number(1<<62)) <= 0
}

func toldCount(l []api.Run) *big.Int {
	count := new(big.Int)
	for _, x := range l {
		count.Add(count, number(x.Count))
	}
	return count
}

func toldMay(base []uint64, most int, l []api.Run) bool {
	if len(l) == 0 {
		return false
	}
	for _, x := range l {
		if !toldRun(x) || int(x.From) >= len(base) {
			return false
		}
		if above := new(big.Int).Add(number(base[x.From]), big.NewInt(1)); above.Cmp(number(x.First)) != 0 {
			return false
		}
	}
	for i := range l {
		for j := range i {
			if l[j].From >= l[i].From {
				return false
			}
		}
	}
	count := toldCount(l)
	return count.Cmp(big.NewInt(int64(most))) <= 0 && count.Cmp(big.NewInt(4096)) <= 0
}

func toldAfter(base []uint64, l []api.Run) []uint64 {
	after := append([]uint64{}, base...)
	if !toldMay(base, 4096, l) {
		return after
	}
	for i := range after {
		for _, x := range l {
			if int(x.From) == i {
				after[i] = x.First - 1 + x.Count
			}
		}
	}
	return after
}

func toldHeld(held []uint64, l []api.Run) bool {
	for _, x := range l {
		n := uint64(0)
		if int(x.From) < len(held) {
			n = held[x.From]
		}
		if !toldRun(x) || number(n).Cmp(toldLast(x)) < 0 {
			return false
		}
	}
	return true
}

// turn is one id that could be taken: in which turn, and whose.
type turn struct {
	nth  uint64
	from int
}

// toldNext lists all ids that could be taken, each with its turn, puts them in
// order and cuts what is too much.
func toldNext(base, held []uint64, most int) []api.Run {
	if most <= 0 {
		return nil
	}
	most = min(most, 4096)
	var turns []turn
	for i := 0; i < len(base) && i < len(held) && i < 64; i++ {
		for nth := uint64(0); nth < uint64(most); nth++ {
			seq := new(big.Int).Add(number(base[i]), number(nth+1))
			if seq.Cmp(number(held[i])) > 0 || seq.Cmp(number(1<<62)) > 0 {
				break
			}
			turns = append(turns, turn{nth, i})
		}
	}
	slices.SortFunc(turns, func(a, b turn) int {
		return cmp.Or(cmp.Compare(a.nth, b.nth), cmp.Compare(a.from, b.from))
	})
	var counts [64]uint64
	for _, x := range turns[:min(most, len(turns))] {
		counts[x.from]++
	}
	var l []api.Run
	for i, count := range counts {
		if count > 0 {
			l = append(l, run(uint8(i), base[i]+1, count))
		}
	}
	return l
}

// toldOrder takes the ids away from the front of each run's own list, one a turn.
func toldOrder(l []api.Run) []api.ID {
	for _, x := range l {
		if !toldRun(x) {
			return nil
		}
	}
	if toldCount(l).Cmp(big.NewInt(4096)) > 0 {
		return nil
	}
	rest := slices.Clone(l)
	var ids []api.ID
	for len(rest) > 0 {
		var next []api.Run
		for _, x := range rest {
			ids = append(ids, id(x.From, x.First))
			if x.Count > 1 {
				next = append(next, run(x.From, x.First+1, x.Count-1))
			}
		}
		rest = next
	}
	return ids
}

// wantRunsAsTold holds each call that takes runs against what the chapter says.
func wantRunsAsTold(t *testing.T, v []uint64, most int, l ...api.Run) {
	t.Helper()
	if got, want := batch.May(v, most, l...), toldMay(v, most, l); got != want {
		t.Errorf("May(%v, %d, %v) = %v", v, most, l, got)
	}
	if got, want := batch.After(v, l...), toldAfter(v, l); !slices.Equal(got, want) {
		t.Errorf("After(%v, %v) = %v, want %v", v, l, got, want)
	}
	if got, want := batch.Held(v, l...), toldHeld(v, l); got != want {
		t.Errorf("Held(%v, %v) = %v", v, l, got)
	}
	if got, want := batch.Order(l...), toldOrder(l); !slices.Equal(got, want) {
		t.Errorf("Order(%v) has %d ids, want %d", l, len(got), len(want))
	}
}

// wantNextAsTold holds Next against what the chapter says, and what it answers
// against what the other calls say of it.
func wantNextAsTold(t *testing.T, base, held []uint64, most int) {
	t.Helper()
	l := batch.Next(base, held, most)
	if want := toldNext(base, held, most); !slices.Equal(l, want) {
		t.Errorf("Next(%v, %v, %d) = %v, want %v", base, held, most, l, want)
	}
	if len(l) == 0 {
		return
	}
	if !batch.May(base, most, l...) || !batch.May(base, mostIDs, l...) || !batch.Held(held, l...) {
		t.Errorf("Next(%v, %v, %d) = %v: no batch, or not held", base, held, most, l)
	}
	wantFair(t, base, held, l)
	wantInOrder(t, l)
}

// wantFair: whoever has more that is held gets no less than another sender, but for
// one; and that one goes to senders ahead alone.
func wantFair(t *testing.T, base, held []uint64, l []api.Run) {
	t.Helper()
	counts := map[int]uint64{}
	for _, x := range l {
		counts[int(x.From)] = x.Count
	}
	for i := range min(len(base), len(held), api.MaxProcs) {
		if top := min(held[i], api.MaxSeq); base[i] >= top || counts[i] == top-base[i] {
			continue
		}
		for _, x := range l {
			if x.Count > counts[i]+1 || x.Count > counts[i] && int(x.From) > i {
				t.Errorf("held %v: the sender %d has more, and gets %d, less than %v", held, i, counts[i], x)
			}
		}
	}
}

// wantInOrder: each id of a batch comes once, and each sender's by their numbers.
func wantInOrder(t *testing.T, l []api.Run) {
	t.Helper()
	next := map[uint8]uint64{}
	total := uint64(0)
	for _, x := range l {
		next[x.From] = x.First
		total += x.Count
	}
	ids := batch.Order(l...)
	for _, one := range ids {
		if next[one.From] != one.Seq {
			t.Errorf("Order(%v): %v comes ahead of %d", l, one, next[one.From])
		}
		next[one.From]++
	}
	if uint64(len(ids)) != total {
		t.Errorf("Order(%v) has %d ids, want %d", l, len(ids), total)
	}
}

func TestExample(t *testing.T) { // P5.1, P5.2, P5.3
	l := batch.Next([]uint64{0, 0}, []uint64{3, 1}, 3)
	if want := []api.Run{run(0, 1, 2), run(1, 1, 1)}; !slices.Equal(l, want) {
		t.Errorf("Next = %v, want %v", l, want)
	}
	if ids, want := batch.Order(l...), []api.ID{id(0, 1), id(1, 1), id(0, 2)}; !slices.Equal(ids, want) {
		t.Errorf("Order = %v, want %v", ids, want)
	}
}

func TestMay(t *testing.T) { // P5.1
	base := []uint64{4, 0, 2}
	for name, c := range map[string]struct {
		base []uint64
		most int
		l    []api.Run
		want bool
	}{
		"one run of one":            {base, 9, []api.Run{run(0, 5, 1)}, true},
		"one run":                   {base, 9, []api.Run{run(1, 1, 9)}, true},
		"several runs":              {base, 9, []api.Run{run(0, 5, 2), run(2, 3, 1)}, true},
		"a run of each":             {base, 9, []api.Run{run(0, 5, 3), run(1, 1, 3), run(2, 3, 3)}, true},
		"no run":                    {base, 9, nil, false},
		"an empty list":             {base, 9, []api.Run{}, false},
		"no run on no base":         {nil, 9, nil, false},
		"no base":                   {nil, 9, []api.Run{run(0, 1, 1)}, false},
		"an empty base":             {[]uint64{}, 9, []api.Run{run(0, 1, 1)}, false},
		"the base's last place":     {base, 9, []api.Run{run(2, 3, 1)}, true},
		"behind the base's end":     {base, 9, []api.Run{run(3, 1, 1)}, false},
		"behind a shorter base":     {base[:2], 9, []api.Run{run(2, 3, 1)}, false},
		"the last one behind":       {base, 9, []api.Run{run(0, 5, 1), run(3, 1, 1)}, false},
		"First is the base's":       {base, 9, []api.Run{run(0, 4, 1)}, false},
		"First is two above":        {base, 9, []api.Run{run(0, 6, 1)}, false},
		"First of another sender":   {base, 9, []api.Run{run(1, 5, 1)}, false},
		"a later First is above":    {base, 9, []api.Run{run(0, 5, 1), run(2, 4, 1)}, false},
		"a later First is below":    {base, 9, []api.Run{run(0, 5, 1), run(2, 2, 1)}, false},
		"just most ids":             {base, 3, []api.Run{run(0, 5, 2), run(2, 3, 1)}, true},
		"one more than most":        {base, 2, []api.Run{run(0, 5, 2), run(2, 3, 1)}, false},
		"most of 1":                 {base, 1, []api.Run{run(0, 5, 1)}, true},
		"most of 1, two ids":        {base, 1, []api.Run{run(0, 5, 2)}, false},
		"most of 0":                 {base, 0, []api.Run{run(0, 5, 1)}, false},
		"most below 0":              {base, -1, []api.Run{run(0, 5, 1)}, false},
		"most far below 0":          {base, math.MinInt, []api.Run{run(0, 5, 1)}, false},
		"most of 0, no run":         {base, 0, nil, false},
		"MaxBatch ids":              {base, mostIDs, []api.Run{run(0, 5, mostIDs-1), run(1, 1, 1)}, true},
		"one less than MaxBatch":    {base, mostIDs - 1, []api.Run{run(0, 5, mostIDs-1), run(1, 1, 1)}, false},
		"MaxBatch in one run":       {base, mostIDs, []api.Run{run(0, 5, mostIDs)}, true},
		"MaxBatch and one more":     {base, mostIDs, []api.Run{run(0, 5, mostIDs), run(1, 1, 1)}, false},
		"most above MaxBatch":       {base, mostIDs + 1, []api.Run{run(0, 5, mostIDs)}, true},
		"one more, most above":      {base, mostIDs + 1, []api.Run{run(0, 5, mostIDs+1)}, false},
		"one more, most far above":  {base, math.MaxInt, []api.Run{run(0, 5, mostIDs), run(1, 1, 1)}, false},
		"two runs of one sender":    {base, 9, []api.Run{run(0, 5, 1), run(0, 5, 1)}, false},
		"one that goes on":          {base, 9, []api.Run{run(0, 5, 1), run(0, 6, 1)}, false},
		"two of one, others ahead":  {base, 9, []api.Run{run(0, 5, 1), run(2, 3, 1), run(2, 3, 1)}, false},
		"falling by From":           {base, 9, []api.Run{run(2, 3, 1), run(0, 5, 1)}, false},
		"rising, then falling":      {base, 9, []api.Run{run(0, 5, 1), run(2, 3, 1), run(1, 1, 1)}, false},
		"a run of no id":            {base, 9, []api.Run{run(0, 5, 0)}, false},
		"a later run of no id":      {base, 9, []api.Run{run(0, 5, 1), run(2, 3, 0)}, false},
		"First of 0":                {[]uint64{huge}, 9, []api.Run{run(0, 0, 1)}, false},
		"a base's greatest number":  {[]uint64{huge}, 9, []api.Run{run(0, 1, 1)}, false},
		"up to MaxSeq":              {[]uint64{lastSeq - 2}, 9, []api.Run{run(0, lastSeq-1, 2)}, true},
		"beyond MaxSeq":             {[]uint64{lastSeq - 2}, 9, []api.Run{run(0, lastSeq-1, 3)}, false},
		"MaxSeq itself":             {[]uint64{lastSeq - 1}, 9, []api.Run{run(0, lastSeq, 1)}, true},
		"a base of MaxSeq":          {[]uint64{lastSeq}, 9, []api.Run{run(0, lastSeq+1, 1)}, false},
		"the last process":          {same(api.MaxProcs, 7), 9, []api.Run{run(lastPlace, 8, 1)}, true},
		"behind the last process":   {same(100, 7), 9, []api.Run{run(api.MaxProcs, 8, 1)}, false},
		"a long base":               {same(100, 7), 9, []api.Run{run(0, 8, 1), run(lastPlace, 8, 1)}, true},
		"From of 255":               {same(256, 7), 9, []api.Run{run(255, 8, 1)}, false},
		"counts beyond 64 bits":     {base, 9, []api.Run{run(0, 5, 1<<63), run(1, 1, 1<<63)}, false},
		"counts that wrap to 2":     {base, 9, []api.Run{run(0, 5, huge), run(1, 1, 3)}, false},
		"a last Seq that wraps":     {base, 9, []api.Run{run(0, 5, huge-4)}, false},
		"counts of MaxSeq together": {[]uint64{0, 0, 0, 0, 0}, math.MaxInt, []api.Run{run(0, 1, lastSeq), run(1, 1, lastSeq), run(2, 1, lastSeq), run(3, 1, lastSeq), run(4, 1, 4)}, false},
	} {
		if got := batch.May(c.base, c.most, c.l...); got != c.want {
			t.Errorf("%s: May(%v, %d, %v) = %v", name, c.base, c.most, c.l, got)
		}
		wantRunsAsTold(t, c.base, c.most, c.l...)
	}
}

func TestAfter(t *testing.T) { // P5.1
	base := []uint64{4, 0, 2}
	for name, c := range map[string]struct {
		base []uint64
		l    []api.Run
		want []uint64
	}{
		"one run":              {base, []api.Run{run(0, 5, 2)}, []uint64{6, 0, 2}},
		"several runs":         {base, []api.Run{run(0, 5, 2), run(2, 3, 1)}, []uint64{6, 0, 3}},
		"a run of each":        {base, []api.Run{run(0, 5, 1), run(1, 1, 7), run(2, 3, 2)}, []uint64{5, 7, 4}},
		"MaxBatch ids":         {base, []api.Run{run(1, 1, mostIDs)}, []uint64{4, mostIDs, 2}},
		"more than MaxBatch":   {base, []api.Run{run(1, 1, mostIDs+1)}, base},
		"no run":               {base, nil, base},
		"no base":              {nil, []api.Run{run(0, 1, 1)}, nil},
		"an empty base":        {[]uint64{}, []api.Run{run(0, 1, 1)}, nil},
		"behind the base":      {base, []api.Run{run(0, 5, 1), run(3, 1, 1)}, base},
		"a wrong First":        {base, []api.Run{run(0, 5, 1), run(2, 2, 1)}, base},
		"two of one sender":    {base, []api.Run{run(0, 5, 1), run(0, 6, 1)}, base},
		"falling":              {base, []api.Run{run(2, 3, 1), run(0, 5, 1)}, base},
		"a run that mayn't be": {base, []api.Run{run(0, 5, 1), run(2, 3, 0)}, base},
		"up to MaxSeq":         {[]uint64{lastSeq - 3}, []api.Run{run(0, lastSeq-2, 3)}, []uint64{lastSeq}},
		"beyond MaxSeq":        {[]uint64{lastSeq - 3}, []api.Run{run(0, lastSeq-2, 4)}, []uint64{lastSeq - 3}},
		"greatest number":      {[]uint64{huge}, []api.Run{run(0, 0, 1)}, []uint64{huge}},
		"a long base":          {append(same(99, 0), 5), []api.Run{run(0, 1, 1)}, append(append([]uint64{1}, same(98, 0)...), 5)},
		"behind processes":     {same(100, 0), []api.Run{run(api.MaxProcs, 1, 1)}, same(100, 0)},
		"counts beyond 64":     {base, []api.Run{run(0, 5, huge), run(1, 1, huge)}, base},
		"noughts at the end":   {[]uint64{0, 0, 0}, []api.Run{run(0, 1, 1)}, []uint64{1, 0, 0}},
	} {
		if got := batch.After(c.base, c.l...); !slices.Equal(got, c.want) {
			t.Errorf("%s: After(%v, %v) = %v, want %v", name, c.base, c.l, got, c.want)
		}
		wantRunsAsTold(t, c.base, mostIDs, c.l...)
	}
}

func TestHeld(t *testing.T) { // P5.1
	held := []uint64{7, 0, 3}
	for name, c := range map[string]struct {
		held []uint64
		l    []api.Run
		want bool
	}{
		"no run":                   {held, nil, true},
		"no run, nothing held":     {nil, nil, true},
		"just held":                {held, []api.Run{run(0, 5, 3)}, true},
		"more is held":             {held, []api.Run{run(0, 5, 1)}, true},
		"one more than held":       {held, []api.Run{run(0, 5, 4)}, false},
		"all of it":                {held, []api.Run{run(0, 1, 7), run(2, 1, 3)}, true},
		"the later isn't held":     {held, []api.Run{run(0, 1, 7), run(2, 1, 4)}, false},
		"the first isn't held":     {held, []api.Run{run(0, 1, 8), run(2, 1, 3)}, false},
		"one between isn't":        {held, []api.Run{run(0, 1, 1), run(1, 1, 1), run(2, 1, 1)}, false},
		"nothing of the sender":    {held, []api.Run{run(1, 1, 1)}, false},
		"behind the end":           {held, []api.Run{run(3, 1, 1)}, false},
		"nothing held":             {nil, []api.Run{run(0, 1, 1)}, false},
		"an empty vector":          {[]uint64{}, []api.Run{run(0, 1, 1)}, false},
		"no batch: falling":        {held, []api.Run{run(2, 1, 1), run(0, 3, 1)}, true},
		"no batch: one twice":      {held, []api.Run{run(0, 3, 1), run(0, 3, 2)}, true},
		"a run of no id":           {held, []api.Run{run(0, 5, 0)}, false},
		"a run from 0 on":          {held, []api.Run{run(0, 0, 3)}, false},
		"a run of none from 0":     {held, []api.Run{run(0, 0, 0)}, false},
		"held, but not allowed":    {held, []api.Run{run(0, 5, 1), run(2, 0, 1)}, false},
		"far more than MaxBatch":   {[]uint64{lastSeq}, []api.Run{run(0, 1, lastSeq)}, true},
		"up to MaxSeq, huge held":  {[]uint64{huge}, []api.Run{run(0, lastSeq, 1)}, true},
		"beyond MaxSeq, huge held": {[]uint64{huge}, []api.Run{run(0, lastSeq, 2)}, false},
		"one less than MaxSeq":     {[]uint64{lastSeq - 1}, []api.Run{run(0, lastSeq, 1)}, false},
		"a last Seq that wraps":    {[]uint64{7}, []api.Run{run(0, 5, huge)}, false},
		"the last process":         {same(api.MaxProcs, 2), []api.Run{run(lastPlace, 1, 2)}, true},
		"behind the last process":  {same(100, 2), []api.Run{run(api.MaxProcs, 1, 2)}, false},
		"From of 255":              {same(256, 2), []api.Run{run(255, 1, 1)}, false},
	} {
		if got := batch.Held(c.held, c.l...); got != c.want {
			t.Errorf("%s: Held(%v, %v) = %v", name, c.held, c.l, got)
		}
		wantRunsAsTold(t, c.held, 9, c.l...)
	}
}

func TestNext(t *testing.T) { // P5.1, P5.2
	for name, c := range map[string]struct {
		base, held []uint64
		most       int
		want       []api.Run
	}{
		"room for all":             {[]uint64{4, 0, 2}, []uint64{7, 0, 3}, 9, []api.Run{run(0, 5, 3), run(2, 3, 1)}},
		"room for just all":        {[]uint64{4, 0, 2}, []uint64{7, 0, 3}, 4, []api.Run{run(0, 5, 3), run(2, 3, 1)}},
		"room for a part":          {[]uint64{4, 0, 2}, []uint64{7, 0, 3}, 3, []api.Run{run(0, 5, 2), run(2, 3, 1)}},
		"room for one each":        {[]uint64{4, 0, 2}, []uint64{7, 0, 3}, 2, []api.Run{run(0, 5, 1), run(2, 3, 1)}},
		"room for one":             {[]uint64{4, 0, 2}, []uint64{7, 0, 3}, 1, []api.Run{run(0, 5, 1)}},
		"the last turn is cut":     {[]uint64{0, 0, 0}, []uint64{9, 9, 9}, 8, []api.Run{run(0, 1, 3), run(1, 1, 3), run(2, 1, 2)}},
		"a sender runs out":        {[]uint64{0, 0, 0}, []uint64{9, 1, 9}, 8, []api.Run{run(0, 1, 4), run(1, 1, 1), run(2, 1, 3)}},
		"the first runs out":       {[]uint64{0, 0}, []uint64{1, 9}, 4, []api.Run{run(0, 1, 1), run(1, 1, 3)}},
		"nothing more is held":     {[]uint64{4, 0, 2}, []uint64{4, 0, 2}, 9, nil},
		"the base is above":        {[]uint64{4, 5, 2}, []uint64{3, 1, 0}, 9, nil},
		"the base is above once":   {[]uint64{4, 5, 2}, []uint64{3, 6, 0}, 9, []api.Run{run(1, 6, 1)}},
		"no base":                  {nil, []uint64{3, 1}, 9, nil},
		"an empty base":            {[]uint64{}, []uint64{3, 1}, 9, nil},
		"nothing held":             {[]uint64{0, 0}, nil, 9, nil},
		"nothing at all":           {nil, nil, 9, nil},
		"a short base":             {[]uint64{0}, []uint64{1, 5, 5}, 9, []api.Run{run(0, 1, 1)}},
		"a short held":             {[]uint64{0, 0, 0}, []uint64{2}, 9, []api.Run{run(0, 1, 2)}},
		"the base's last place":    {[]uint64{0, 0, 0}, []uint64{0, 0, 2}, 9, []api.Run{run(2, 1, 2)}},
		"most of 0":                {[]uint64{0}, []uint64{3}, 0, nil},
		"most below 0":             {[]uint64{0}, []uint64{3}, -1, nil},
		"most far below 0":         {[]uint64{0}, []uint64{3}, math.MinInt, nil},
		"most of MaxBatch":         {[]uint64{0}, []uint64{huge}, mostIDs, []api.Run{run(0, 1, mostIDs)}},
		"one below MaxBatch":       {[]uint64{0}, []uint64{huge}, mostIDs - 1, []api.Run{run(0, 1, mostIDs-1)}},
		"most above MaxBatch":      {[]uint64{0}, []uint64{huge}, mostIDs + 1, []api.Run{run(0, 1, mostIDs)}},
		"most far above":           {[]uint64{0, 3}, []uint64{huge, huge}, math.MaxInt, []api.Run{run(0, 1, mostIDs/2), run(1, 4, mostIDs/2)}},
		"one less than MaxBatch":   {[]uint64{5}, []uint64{5 + mostIDs - 1}, math.MaxInt, []api.Run{run(0, 6, mostIDs-1)}},
		"up to MaxSeq":             {[]uint64{lastSeq - 2}, []uint64{lastSeq}, 9, []api.Run{run(0, lastSeq-1, 2)}},
		"held beyond MaxSeq":       {[]uint64{lastSeq - 2}, []uint64{huge}, 9, []api.Run{run(0, lastSeq-1, 2)}},
		"MaxSeq beside another":    {[]uint64{lastSeq - 1, 0}, []uint64{huge, 3}, 9, []api.Run{run(0, lastSeq, 1), run(1, 1, 3)}},
		"a base of MaxSeq":         {[]uint64{lastSeq, 0}, []uint64{huge, 1}, 9, []api.Run{run(1, 1, 1)}},
		"a base beyond MaxSeq":     {[]uint64{lastSeq + 1, 0}, []uint64{huge, 1}, 9, []api.Run{run(1, 1, 1)}},
		"the greatest base":        {[]uint64{huge, huge - 1}, []uint64{huge, huge}, 9, nil},
		"the last process":         {same(api.MaxProcs, 0), append(same(lastPlace, 0), 2), 9, []api.Run{run(lastPlace, 1, 2)}},
		"behind the last process":  {same(100, 0), append(same(api.MaxProcs, 0), same(36, 5)...), 9, nil},
		"both sides of MaxProcs":   {same(100, 0), append(same(lastPlace, 0), same(37, 5)...), 9, []api.Run{run(lastPlace, 1, 5)}},
		"places of 256 and more":   {same(300, 0), append(same(256, 0), same(44, 5)...), 9, nil},
		"a base of 256 and more":   {same(300, 0), []uint64{2, 1}, 9, []api.Run{run(0, 1, 2), run(1, 1, 1)}},
		"noughts that aren't runs": {[]uint64{1, 2, 3}, []uint64{0, 3, 0}, 9, []api.Run{run(1, 3, 1)}},
	} {
		if got := batch.Next(c.base, c.held, c.most); !slices.Equal(got, c.want) {
			t.Errorf("%s: Next(%v, %v, %d) = %v, want %v", name, c.base, c.held, c.most, got, c.want)
		}
		wantNextAsTold(t, c.base, c.held, c.most)
	}
}

func TestNextOfManySenders(t *testing.T) { // P5.2
	base, held := same(api.MaxProcs, 10), same(api.MaxProcs, lastSeq)
	for _, most := range []int{1, lastPlace, api.MaxProcs, api.MaxProcs + 1, 1000, mostIDs - 1, mostIDs, mostIDs + 1, math.MaxInt} {
		wantNextAsTold(t, base, held, most)
	}
	l := batch.Next(base, held, mostIDs)
	if len(l) != api.MaxProcs {
		t.Fatalf("%d senders, want all", len(l))
	}
	for i, x := range l {
		if x != run(uint8(i), 11, mostIDs/api.MaxProcs) {
			t.Errorf("the sender %d gets %v", i, x)
		}
	}
}

func TestNextOnWhatWasNext(t *testing.T) { // P5.2: whatever the room, all that is held comes in the end
	held := []uint64{9, 0, 23, 1, 4}
	for most := 1; most <= 40; most++ {
		base, total := make([]uint64, len(held)), 0
		for l := batch.Next(base, held, most); len(l) > 0; l = batch.Next(base, held, most) {
			wantNextAsTold(t, base, held, most)
			if total += len(batch.Order(l...)); total > 37 {
				t.Fatalf("most %d: %d ids, more than are held", most, total)
			}
			base = batch.After(base, l...)
		}
		if !slices.Equal(base, held) || total != 37 {
			t.Errorf("most %d: %v of %v, %d ids", most, base, held, total)
		}
	}
}

func TestOrder(t *testing.T) { // P5.1, P5.3
	for name, c := range map[string]struct {
		l    []api.Run
		want []api.ID
	}{
		"no run":                  {nil, nil},
		"one run of one":          {[]api.Run{run(3, 8, 1)}, []api.ID{id(3, 8)}},
		"one run":                 {[]api.Run{run(3, 8, 3)}, []api.ID{id(3, 8), id(3, 9), id(3, 10)}},
		"the first is longer":     {[]api.Run{run(0, 5, 3), run(2, 3, 1)}, []api.ID{id(0, 5), id(2, 3), id(0, 6), id(0, 7)}},
		"the later is longer":     {[]api.Run{run(0, 5, 1), run(2, 3, 3)}, []api.ID{id(0, 5), id(2, 3), id(2, 4), id(2, 5)}},
		"the middle is longest":   {[]api.Run{run(0, 5, 1), run(1, 1, 3), run(2, 3, 2)}, []api.ID{id(0, 5), id(1, 1), id(2, 3), id(1, 2), id(2, 4), id(1, 3)}},
		"in the order of runs":    {[]api.Run{run(2, 3, 2), run(0, 5, 2)}, []api.ID{id(2, 3), id(0, 5), id(2, 4), id(0, 6)}},
		"two of one sender":       {[]api.Run{run(0, 5, 2), run(0, 5, 1)}, []api.ID{id(0, 5), id(0, 5), id(0, 6)}},
		"up to MaxSeq":            {[]api.Run{run(lastPlace, lastSeq-1, 2)}, []api.ID{id(lastPlace, lastSeq-1), id(lastPlace, lastSeq)}},
		"beyond MaxSeq":           {[]api.Run{run(0, lastSeq-1, 3)}, nil},
		"a run of no id":          {[]api.Run{run(0, 5, 2), run(1, 1, 0)}, nil},
		"a run from 0 on":         {[]api.Run{run(0, 0, 2), run(1, 1, 1)}, nil},
		"behind the last process": {[]api.Run{run(api.MaxProcs, 1, 1)}, nil},
		"one more than MaxBatch":  {[]api.Run{run(0, 5, mostIDs), run(1, 1, 1)}, nil},
		"more than MaxBatch":      {[]api.Run{run(0, 5, mostIDs+1)}, nil},
		"a run of MaxSeq":         {[]api.Run{run(0, 1, lastSeq)}, nil},
		"runs of MaxSeq":          {slices.Repeat([]api.Run{run(0, 1, lastSeq)}, 4), nil},
		"counts beyond 64 bits":   {[]api.Run{run(0, 1, huge), run(1, 1, 2)}, nil},
		"too many runs":           {slices.Repeat([]api.Run{run(0, 1, 1)}, mostIDs+1), nil},
	} {
		if got := batch.Order(c.l...); !slices.Equal(got, c.want) {
			t.Errorf("%s: Order = %v, want %v", name, got, c.want)
		}
	}
	for name, l := range map[string][]api.Run{
		"MaxBatch ids of one":  {run(0, 5, mostIDs)},
		"MaxBatch ids of two":  {run(0, 5, mostIDs-1), run(1, 1, 1)},
		"MaxBatch runs":        slices.Repeat([]api.Run{run(1, 7, 1)}, mostIDs),
		"long one, many short": append(slices.Repeat([]api.Run{run(1, 7, 1)}, mostIDs/2), run(0, 1, mostIDs/2)),
	} {
		if got := batch.Order(l...); len(got) != mostIDs || !slices.Equal(got, toldOrder(l)) {
			t.Errorf("%s: Order has %d ids", name, len(got))
		}
	}
}

// vectors are all of at most so many places with numbers of at most most.
func vectors(places int, most uint64) [][]uint64 {
	all, last := [][]uint64{{}}, [][]uint64{{}}
	for range places {
		var next [][]uint64
		for _, a := range last {
			for n := range most + 1 {
				next = append(next, append(slices.Clone(a), n))
			}
		}
		all, last = append(all, next...), next
	}
	return all
}

func TestAllSmallNexts(t *testing.T) { // P5.1, P5.2, P5.3
	bases, helds := vectors(3, 2), vectors(3, 4)
	for _, base := range bases {
		for _, held := range helds {
			for most := range 6 {
				wantNextAsTold(t, base, held, most)
			}
			wantNextAsTold(t, base, held, 20)
		}
	}
}

func TestAllSmallRuns(t *testing.T) { // P5.1, P5.3
	var small []api.Run
	for from := range uint8(3) {
		for first := range uint64(4) {
			for count := range uint64(3) {
				small = append(small, run(from, first, count))
			}
		}
	}
	for _, v := range vectors(2, 2) {
		for most := range 5 {
			wantRunsAsTold(t, v, most)
			for _, x := range small {
				wantRunsAsTold(t, v, most, x)
				for _, y := range small {
					wantRunsAsTold(t, v, most, x, y)
				}
			}
		}
	}
}

// edges are numbers at and beside those that the chapter names.
func edges() []uint64 {
	return []uint64{0, 1, 2, 3, mostIDs - 1, mostIDs, mostIDs + 1, lastSeq - mostIDs, lastSeq - 2, lastSeq - 1, lastSeq, lastSeq + 1, 1 << 63, huge - 1, huge}
}

func mosts() []int {
	return []int{math.MinInt, -1, 0, 1, 2, 3, 5, mostIDs - 1, mostIDs, mostIDs + 1, math.MaxInt}
}

func pick[T any](dice *rand.Rand, l []T) T { return l[dice.Intn(len(l))] }

func someVector(dice *rand.Rand, numbers []uint64) []uint64 {
	v := make([]uint64, dice.Intn(5))
	for i := range v {
		v[i] = pick(dice, numbers)
	}
	return v
}

func TestAnyRuns(t *testing.T) { // P5.1
	dice := rand.New(rand.NewSource(5))
	froms := []uint8{0, 1, 2, 3, lastPlace, api.MaxProcs, 255}
	for range 6000 {
		l := make([]api.Run, dice.Intn(4))
		for i := range l {
			l[i] = run(pick(dice, froms), pick(dice, edges()), pick(dice, edges()))
		}
		wantRunsAsTold(t, someVector(dice, edges()), pick(dice, mosts()), l...)
	}
}

func TestAlmostBatches(t *testing.T) { // P5.1, P5.3: batches, and batches with one thing wrong
	dice := rand.New(rand.NewSource(6))
	for range 4000 {
		base := someVector(dice, edges())
		var l []api.Run
		for i, n := range base {
			if dice.Intn(3) > 0 {
				l = append(l, run(uint8(i), n+1, 1+uint64(dice.Intn(3))))
			}
		}
		wantRunsAsTold(t, base, dice.Intn(13), l...)
		if len(l) == 0 {
			continue
		}
		x := &l[dice.Intn(len(l))]
		switch dice.Intn(4) {
		case 0:
			x.From += uint8(dice.Intn(3)) - 1
		case 1:
			x.First += uint64(dice.Intn(3)) - 1
		case 2:
			x.Count = pick(dice, edges())
		case 3:
			*x = pick(dice, l)
		}
		wantRunsAsTold(t, base, pick(dice, mosts()), l...)
	}
}

func TestAnyNexts(t *testing.T) { // P5.1, P5.2, P5.3
	dice := rand.New(rand.NewSource(7))
	for range 300 {
		wantNextAsTold(t, someVector(dice, edges()), someVector(dice, edges()), pick(dice, mosts()))
	}
	for range 1500 {
		base, held := make([]uint64, dice.Intn(70)), make([]uint64, dice.Intn(70))
		for i := range base {
			base[i] = uint64(dice.Intn(9))
		}
		for i := range held {
			held[i] = uint64(dice.Intn(30))
		}
		wantNextAsTold(t, base, held, dice.Intn(200))
	}
}

func TestNoListIsAnEmptyOne(t *testing.T) { // P0.5
	for _, none := range [][]uint64{nil, {}} {
		if batch.May(none, 9, run(0, 1, 1)) || len(batch.After(none, run(0, 1, 1))) != 0 || batch.Held(none, run(0, 1, 1)) || !batch.Held(none) {
			t.Errorf("May, After, Held of %#v", none)
		}
		if len(batch.Next(none, []uint64{1}, 9)) != 0 || len(batch.Next([]uint64{1}, none, 9)) != 0 || len(batch.Next(none, none, 9)) != 0 {
			t.Errorf("Next of %#v", none)
		}
	}
	base := []uint64{3, 1}
	for _, none := range [][]api.Run{nil, {}} {
		if batch.May(base, 9, none...) || !slices.Equal(batch.After(base, none...), base) || !batch.Held(base, none...) || len(batch.Order(none...)) != 0 {
			t.Errorf("no runs: %#v", none)
		}
	}
}

func TestWhatIsHandedInIsLeftAsItWas(t *testing.T) { // P0.4
	base, held := []uint64{4, 0, 2, 9, 9}, []uint64{7, 0, 3, 5, 5}
	l := []api.Run{run(0, 5, 2), run(2, 3, 1), run(1, 1, 1), run(0, 0, 0)}
	keptBase, keptHeld, keptRuns := slices.Clone(base), slices.Clone(held), slices.Clone(l)
	for size := range len(l) + 1 {
		for places := range len(base) + 1 {
			batch.May(base[:places], 9, l[:size]...)
			batch.After(base[:places], l[:size]...)
			batch.Held(held[:places], l[:size]...)
			batch.Next(base[:places], held[:places], size)
			batch.Order(l[:size]...)
			if !slices.Equal(base, keptBase) || !slices.Equal(held, keptHeld) || !slices.Equal(l, keptRuns) {
				t.Fatalf("what was handed in is changed: %v, %v, %v", base, held, l)
			}
		}
	}
}

// wantNewMemory: whoever writes into an answer, or into what was handed in,
// changes no other answer.
func wantNewMemory[T comparable](t *testing.T, name string, with T, call func() []T, spoil func()) {
	t.Helper()
	first, second := call(), call()
	want := slices.Clone(first)
	first = first[:cap(first)]
	for i := range first {
		first[i] = with
	}
	if !slices.Equal(second, want) || !slices.Equal(call(), want) {
		t.Errorf("%s: answers share memory: %v, want %v", name, second, want)
	}
	spoil()
	if !slices.Equal(second, want) {
		t.Errorf("%s: the answer hangs on what was handed in: %v, want %v", name, second, want)
	}
}

func TestAnswersAreNewMemory(t *testing.T) { // P0.4
	var base, held []uint64
	var l []api.Run
	renew := func() {
		base, held = append(make([]uint64, 0, 9), 4, 0, 2), append(make([]uint64, 0, 9), 7, 0, 3)
		l = append(make([]api.Run, 0, 9), run(0, 5, 2), run(2, 3, 1))
	}
	spoil := func() {
		for i := range base[:cap(base)] {
			base[:cap(base)][i], held[:cap(held)][i], l[:cap(l)][i] = 88, 88, run(8, 8, 8)
		}
		renew()
	}
	renew()
	wantNewMemory(t, "After", 77, func() []uint64 { return batch.After(base, l...) }, spoil)
	wantNewMemory(t, "After no batch", 77, func() []uint64 { return batch.After(base, l[1:]...) }, spoil)
	wantNewMemory(t, "After what isn't one", 77, func() []uint64 { return batch.After(base[:2], l...) }, spoil)
	wantNewMemory(t, "After no run", 77, func() []uint64 { return batch.After(base) }, spoil)
	wantNewMemory(t, "Next", run(7, 7, 7), func() []api.Run { return batch.Next(base, held, 3) }, spoil)
	wantNewMemory(t, "Next of all", run(7, 7, 7), func() []api.Run { return batch.Next(base, held, 99) }, spoil)
	wantNewMemory(t, "Next of none", run(7, 7, 7), func() []api.Run { return batch.Next(base, held, 0) }, spoil)
	wantNewMemory(t, "Order", id(7, 7), func() []api.ID { return batch.Order(l...) }, spoil)
}

func TestAnswersHangOnArgumentsAlone(t *testing.T) { // P0.6
	base, held := same(api.MaxProcs, 3), same(api.MaxProcs, 60)
	l := batch.Next(base, held, 100)
	after, ids := batch.After(base, l...), batch.Order(l...)
	for range 3 {
		batch.Next(held, same(70, huge), mostIDs)
		batch.After(held, run(0, 61, 5))
		batch.Order(run(9, 1, mostIDs))
		if !slices.Equal(batch.Next(base, held, 100), l) || !slices.Equal(batch.After(base, l...), after) || !slices.Equal(batch.Order(l...), ids) {
			t.Error("answers hang on earlier calls")
		}
	}
}

// numberOf is a byte as a number near 0, near MaxSeq, or near the end of 64 bits.
func numberOf(b byte) uint64 {
	switch {
	case b < 128:
		return uint64(b)
	case b < 192:
		return lastSeq - 160 + uint64(b)
	}
	return uint64(int64(int8(b)))
}

func vectorOf(b []byte) []uint64 {
	v := make([]uint64, len(b))
	for i, n := range b {
		v[i] = numberOf(n)
	}
	return v
}

func FuzzRuns(f *testing.F) { // P5.1, P5.3
	f.Add([]byte{4, 0, 2}, 9, []byte{0, 5, 2, 2, 3, 1})
	f.Add([]byte{158}, 2, []byte{0, 159, 2})
	f.Add(make([]byte, 100), 4096, []byte{63, 1, 1, 64, 1, 1})
	f.Fuzz(func(t *testing.T, v []byte, most int, b []byte) {
		var l []api.Run
		for ; len(b) >= 3; b = b[3:] {
			l = append(l, run(b[0], numberOf(b[1]), numberOf(b[2])))
		}
		wantRunsAsTold(t, vectorOf(v), most, l...)
	})
}

func FuzzNext(f *testing.F) { // P5.1, P5.2, P5.3
	f.Add([]byte{4, 0, 2}, []byte{7, 0, 3}, 3)
	f.Add([]byte{158, 0}, []byte{255, 255}, 4097)
	f.Add(make([]byte, 100), []byte{9, 9, 9, 0, 1}, -1)
	f.Fuzz(func(t *testing.T, base, held []byte, most int) {
		wantNextAsTold(t, vectorOf(base), vectorOf(held), most)
	})
}
