package runs_test

import (
	"math"
	"math/rand"
	"slices"
	"testing"

	"sumpter/runs"
)

const most = math.MaxUint64

// cells cut all numbers of 64 bits into pieces: single ones at both ends, and all between them as one.
// A set of whole cells is told by a bit for each, so that every call can be worked out a second way.
var cells = []runs.Run{
	{From: 0, To: 0}, {From: 1, To: 1}, {From: 2, To: 2}, {From: 3, To: 3},
	{From: 4, To: most - 4},
	{From: most - 3, To: most - 3}, {From: most - 2, To: most - 2}, {From: most - 1, To: most - 1}, {From: most, To: most},
}

const subsets = 1 << 9

// list answers the runs of the cells whose bits are set.
func list(bits int) []runs.Run {
	var out []runs.Run
	for i, c := range cells {
		if bits>>i&1 == 0 {
			continue
		}
		if i > 0 && bits>>(i-1)&1 == 1 {
			out[len(out)-1].To = c.To
		} else {
			out = append(out, c)
		}
	}
	return out
}

// set answers the set of the cells whose bits are set.
func set(t *testing.T, bits int) runs.Set {
	t.Helper()
	s, ok := runs.Make(list(bits))
	if !ok {
		t.Fatalf("Make(%v) is false", list(bits))
	}
	return s
}

// holds looks whether a set has just the cells whose bits are set.
func holds(t *testing.T, what string, s runs.Set, bits int) {
	t.Helper()
	if got, want := s.Runs(), list(bits); !slices.Equal(got, want) {
		t.Fatalf("%s: Runs are %v, want %v", what, got, want)
	}
}

// wanted answers runs with their From and To one behind the other.
func wanted(l ...uint64) []runs.Run {
	var out []runs.Run
	for i := 0; i < len(l); i += 2 {
		out = append(out, runs.Run{From: l[i], To: l[i+1]})
	}
	return out
}

// P3.1: a zero Set has none, and everything can be done with it.
func TestZeroSet(t *testing.T) {
	var zero runs.Set
	if zero.Has(0) || zero.Has(7) || zero.Has(most) || zero.Count() != 0 || len(zero.Runs()) != 0 {
		t.Errorf("a zero Set has %v", zero.Runs())
	}
	for _, n := range []uint64{0, 7, most} {
		if got, ok := zero.Gap(n); got != n || !ok {
			t.Errorf("Gap(%d) = %d, %v", n, got, ok)
		}
		if l := zero.Add(n).Runs(); !slices.Equal(l, wanted(n, n)) {
			t.Errorf("Add(%d): %v", n, l)
		}
	}
	for n := range zero.All() {
		t.Errorf("a zero Set tells %d", n)
	}
	for what, s := range map[string]runs.Set{
		"Of":      runs.Of(),
		"Of nil":  runs.Of([]uint64(nil)...),
		"Of none": runs.Of([]uint64{}...),
		"Span":    zero.Span(5, 4),
		"Union":   zero.Union(zero),
		"Less":    zero.Less(zero),
		"Less of": zero.Less(runs.Of(1, 2)),
		"all out": runs.Of(1, 2).Less(runs.Of(1, 2, 3)),
		"Below":   zero.Below(most),
		"Below 0": runs.Of(0, 5).Below(0),
		"From":    zero.From(0),
		"From 6":  runs.Of(0, 5).From(6),
	} {
		if len(s.Runs()) != 0 || !runs.Same(s, zero) || !runs.Same(zero, s) {
			t.Errorf("%s isn't a zero Set: %v", what, s.Runs())
		}
	}
}

// P3.1: Of, in whatever order, each once or more often, at both ends.
func TestOf(t *testing.T) {
	for _, x := range []struct {
		l    []uint64
		want []runs.Run
	}{
		{[]uint64{1, 3, 2, 7}, wanted(1, 3, 7, 7)},
		{[]uint64{7, 7, 7}, wanted(7, 7)},
		{[]uint64{0}, wanted(0, 0)},
		{[]uint64{most}, wanted(most, most)},
		{[]uint64{most, 0}, wanted(0, 0, most, most)},
		{[]uint64{most, most - 1, 0, 1, most}, wanted(0, 1, most-1, most)},
		{[]uint64{5, 1, 9, 3}, wanted(1, 1, 3, 3, 5, 5, 9, 9)},
		{[]uint64{4, 2, 3, 2, 4}, wanted(2, 4)},
	} {
		if got := runs.Of(x.l...).Runs(); !slices.Equal(got, x.want) {
			t.Errorf("Of(%v): %v, want %v", x.l, got, x.want)
		}
	}
}

// P3.1: Add of one that is there, that touches on either side or both, that lies apart.
func TestAdd(t *testing.T) {
	s := runs.Of(2, 3, 6, most-1)
	for _, x := range []struct {
		n    uint64
		want []runs.Run
	}{
		{2, wanted(2, 3, 6, 6, most-1, most-1)},
		{1, wanted(1, 3, 6, 6, most-1, most-1)},
		{4, wanted(2, 4, 6, 6, most-1, most-1)},
		{5, wanted(2, 3, 5, 6, most-1, most-1)},
		{0, wanted(0, 0, 2, 3, 6, 6, most-1, most-1)},
		{9, wanted(2, 3, 6, 6, 9, 9, most-1, most-1)},
		{most, wanted(2, 3, 6, 6, most-1, most)},
		{most - 2, wanted(2, 3, 6, 6, most-2, most-1)},
		{most - 3, wanted(2, 3, 6, 6, most-3, most-3, most-1, most-1)},
	} {
		if got := s.Add(x.n).Runs(); !slices.Equal(got, x.want) {
			t.Errorf("Add(%d): %v, want %v", x.n, got, x.want)
		}
	}
	if got := s.Add(4).Add(5).Runs(); !slices.Equal(got, wanted(2, 6, most-1, most-1)) {
		t.Errorf("Add that closes a gap: %v", got)
	}
}

// P3.1: Span that touches, overlaps, lies within or around, or is turned round.
func TestSpan(t *testing.T) {
	s := runs.Of(10, 11, 12, 20, 21, 22)
	for _, x := range []struct {
		from, to uint64
		want     []runs.Run
	}{
		{14, 18, wanted(10, 12, 14, 18, 20, 22)},
		{13, 18, wanted(10, 18, 20, 22)},
		{14, 19, wanted(10, 12, 14, 22)},
		{13, 19, wanted(10, 22)},
		{11, 21, wanted(10, 22)},
		{11, 11, wanted(10, 12, 20, 22)},
		{10, 12, wanted(10, 12, 20, 22)},
		{0, 8, wanted(0, 8, 10, 12, 20, 22)},
		{0, 9, wanted(0, 12, 20, 22)},
		{0, most, wanted(0, most)},
		{23, most, wanted(10, 12, 20, most)},
		{24, most, wanted(10, 12, 20, 22, 24, most)},
		{5, 15, wanted(5, 15, 20, 22)},
		{15, 14, wanted(10, 12, 20, 22)},
		{most, 0, wanted(10, 12, 20, 22)},
		{1, 0, wanted(10, 12, 20, 22)},
		{most, most - 1, wanted(10, 12, 20, 22)},
	} {
		if got := s.Span(x.from, x.to).Runs(); !slices.Equal(got, x.want) {
			t.Errorf("Span(%d, %d): %v, want %v", x.from, x.to, got, x.want)
		}
	}
}

// P3.1: Union and Less of every two sets of cells, and Same of them.
func TestEveryTwo(t *testing.T) {
	sets := make([]runs.Set, subsets)
	for bits := range sets {
		sets[bits] = set(t, bits)
	}
	for a := range subsets {
		for b := range subsets {
			holds(t, "Union", sets[a].Union(sets[b]), a|b)
			holds(t, "Less", sets[a].Less(sets[b]), a&^b)
			if runs.Same(sets[a], sets[b]) != (a == b) {
				t.Fatalf("Same(%v, %v) is %v", list(a), list(b), a != b)
			}
		}
	}
}

// bitsFrom answers the bits of the cells from one up to another.
func bitsFrom(first, last int) int {
	return 1<<(last+1) - 1<<first
}

// P3.1: Add, Span, Below and From of every set of cells, at every edge of a cell.
func TestEveryEdge(t *testing.T) {
	for bits := range subsets {
		s := set(t, bits)
		for i, c := range cells {
			holds(t, "Below", s.Below(c.From), bits&(1<<i-1))
			holds(t, "From", s.From(c.From), bits&^(1<<i-1))
			if c.From == c.To {
				holds(t, "Add", s.Add(c.From), bits|1<<i)
			}
			for j, d := range cells {
				if i <= j {
					holds(t, "Span", s.Span(c.From, d.To), bits|bitsFrom(i, j))
				} else {
					holds(t, "Span turned round", s.Span(c.From, d.To), bits)
				}
			}
		}
	}
}

// P3.1: Below and From in a run's midst, at its ends, and at both ends of the numbers.
func TestBelowFrom(t *testing.T) {
	s := runs.Set{}.Span(0, 2).Span(5, 8).Span(most-1, most)
	for _, x := range []struct {
		n           uint64
		below, from []runs.Run
	}{
		{0, nil, wanted(0, 2, 5, 8, most-1, most)},
		{1, wanted(0, 0), wanted(1, 2, 5, 8, most-1, most)},
		{2, wanted(0, 1), wanted(2, 2, 5, 8, most-1, most)},
		{3, wanted(0, 2), wanted(5, 8, most-1, most)},
		{5, wanted(0, 2), wanted(5, 8, most-1, most)},
		{7, wanted(0, 2, 5, 6), wanted(7, 8, most-1, most)},
		{8, wanted(0, 2, 5, 7), wanted(8, 8, most-1, most)},
		{9, wanted(0, 2, 5, 8), wanted(most-1, most)},
		{most, wanted(0, 2, 5, 8, most-1, most-1), wanted(most, most)},
	} {
		if got := s.Below(x.n).Runs(); !slices.Equal(got, x.below) {
			t.Errorf("Below(%d): %v, want %v", x.n, got, x.below)
		}
		if got := s.From(x.n).Runs(); !slices.Equal(got, x.from) {
			t.Errorf("From(%d): %v, want %v", x.n, got, x.from)
		}
	}
}

// P3.2: Make takes just what Runs tells.
func TestMake(t *testing.T) {
	for _, l := range [][]runs.Run{
		nil, {},
		wanted(0, 0), wanted(most, most), wanted(0, most),
		wanted(1, 3, 7, 7), wanted(1, 1, 3, 3, 5, 5),
		wanted(0, 0, 2, 2), wanted(0, most-2, most, most), wanted(most-2, most-2, most, most),
	} {
		s, ok := runs.Make(l)
		if !ok || !slices.Equal(s.Runs(), l) {
			t.Errorf("Make(%v): %v, %v", l, s.Runs(), ok)
		}
	}
	for bits := range subsets {
		holds(t, "Make", set(t, bits), bits)
	}
}

// P3.2: no set has runs that touch, overlap, lie within one another, don't rise or are turned round.
func TestMakeFalse(t *testing.T) {
	for what, l := range map[string][]runs.Run{
		"turned round":               wanted(2, 1),
		"turned round at the ends":   wanted(most, 0),
		"turned round by one":        wanted(1, 0),
		"the last turned round":      wanted(1, 2, 9, 8),
		"the first turned round":     wanted(2, 1, 5, 6),
		"one amid turned round":      wanted(1, 2, 6, 5, 9, 9),
		"touch":                      wanted(1, 2, 3, 4),
		"touch at the end":           wanted(0, most-1, most, most),
		"touch at the beginning":     wanted(0, 0, 1, 1),
		"the last touch":             wanted(1, 2, 5, 6, 7, 7),
		"overlap":                    wanted(1, 5, 3, 8),
		"overlap by one":             wanted(1, 5, 5, 8),
		"within":                     wanted(1, 9, 3, 4),
		"around":                     wanted(3, 4, 1, 9),
		"twice":                      wanted(3, 4, 3, 4),
		"twice the last":             wanted(most, most, most, most),
		"fall":                       wanted(5, 6, 1, 1),
		"fall, touching":             wanted(5, 6, 4, 4),
		"behind all":                 wanted(0, most, 0, 0),
		"behind all, the last":       wanted(0, most, most, most),
		"behind the greatest":        wanted(7, most, 0, 1),
		"behind the greatest, apart": wanted(7, most, 2, 3),
	} {
		if s, ok := runs.Make(l); ok || len(s.Runs()) != 0 || s.Count() != 0 {
			t.Errorf("%s: Make(%v): %v, %v", what, l, s.Runs(), ok)
		}
	}
}

// P3.2: every list of up to three runs of small numbers is made, if it is that of a set, and not otherwise.
func TestMakeEvery(t *testing.T) {
	var single []runs.Run
	for from := range uint64(5) {
		for to := range uint64(5) {
			single = append(single, runs.Run{From: from, To: to})
		}
	}
	lists := [][]runs.Run{nil}
	for at := 0; at < len(lists) && len(lists[at]) < 3; at++ {
		for _, r := range single {
			lists = append(lists, append(slices.Clone(lists[at]), r))
		}
	}
	for _, l := range lists {
		var all runs.Set
		for _, r := range l {
			all = all.Span(r.From, r.To)
		}
		want := slices.Equal(all.Runs(), l)
		if s, ok := runs.Make(l); ok != want || ok && !runs.Same(s, all) {
			t.Fatalf("Make(%v): %v, %v, want %v", l, s.Runs(), ok, want)
		}
	}
}

// P3.2: Has, Count and Gap of every set of cells, at and between its edges.
func TestAsked(t *testing.T) {
	for bits := range subsets {
		s := set(t, bits)
		count := uint64(0)
		for i, c := range cells {
			in := bits>>i&1 == 1
			for _, n := range []uint64{c.From, c.To, c.From + (c.To-c.From)/2} {
				if s.Has(n) != in {
					t.Fatalf("%v: Has(%d) is %v", list(bits), n, !in)
				}
				want, ok := gap(bits, i, n)
				if got, found := s.Gap(n); got != want || found != ok {
					t.Fatalf("%v: Gap(%d) = %d, %v, want %d, %v", list(bits), n, got, found, want, ok)
				}
			}
			if in {
				count += c.To - c.From + 1
			}
		}
		if bits == subsets-1 {
			count = most
		}
		if s.Count() != count {
			t.Fatalf("%v: Count is %d, want %d", list(bits), s.Count(), count)
		}
	}
}

// gap answers what Gap must of a set of cells, and of a number n in the cell at that place.
func gap(bits, at int, n uint64) (uint64, bool) {
	for ; at < len(cells); at++ {
		if bits>>at&1 == 0 {
			return max(n, cells[at].From), true
		}
	}
	return 0, false
}

// P3.2: all numbers of 64 bits, and all but one.
func TestAllNumbers(t *testing.T) {
	all := runs.Set{}.Span(0, most)
	if all.Count() != most || !all.Has(0) || !all.Has(1<<63) || !all.Has(most) {
		t.Errorf("all: Count %d", all.Count())
	}
	for _, n := range []uint64{0, 1, 5, most - 1, most} {
		if got, ok := all.Gap(n); ok || got != 0 {
			t.Errorf("all: Gap(%d) = %d, %v", n, got, ok)
		}
		s := all.Less(runs.Of(n))
		if s.Count() != most || s.Has(n) || runs.Same(s, all) || !runs.Same(s.Add(n), all) {
			t.Errorf("all but %d: %v", n, s.Runs())
		}
		if got, ok := s.Gap(0); got != n || !ok {
			t.Errorf("all but %d: Gap(0) = %d, %v", n, got, ok)
		}
	}
	if s := all.Less(runs.Of(3, 9)); s.Count() != most-1 {
		t.Errorf("all but two: Count %d", s.Count())
	}
	if !runs.Same(all.Below(4).Union(all.From(4)), all) || len(all.Less(all).Runs()) != 0 {
		t.Error("all, cut and put together, isn't all")
	}
}

// P3.2: the example of the chapter.
func TestExample(t *testing.T) {
	s := runs.Of(1, 3, 2, 7)
	if got := s.Runs(); !slices.Equal(got, wanted(1, 3, 7, 7)) {
		t.Errorf("Runs are %v", got)
	}
	if got, ok := s.Gap(1); got != 4 || !ok {
		t.Errorf("Gap(1) = %d, %v", got, ok)
	}
	if s.Count() != 4 {
		t.Errorf("Count = %d", s.Count())
	}
}

// P3.2: All is rising, ends at the greatest number, and begins anew each time.
func TestAll(t *testing.T) {
	for _, x := range []struct {
		s    runs.Set
		want []uint64
	}{
		{runs.Of(), nil},
		{runs.Of(9, 0, 2, 1), []uint64{0, 1, 2, 9}},
		{runs.Of(most), []uint64{most}},
		{runs.Of(most, most-1, most-3, 0), []uint64{0, most - 3, most - 1, most}},
		{runs.Set{}.Span(5, 8).Span(1, 2), []uint64{1, 2, 5, 6, 7, 8}},
	} {
		all := x.s.All()
		for range 2 {
			if got := slices.Collect(all); !slices.Equal(got, x.want) {
				t.Errorf("All of %v: %v, want %v", x.s.Runs(), got, x.want)
			}
		}
	}
}

// P3.2: who stops in All, in a run's midst or at its end, is asked no more.
func TestAllStopped(t *testing.T) {
	s := runs.Of(1, 2, 3, 7, 8, most)
	want := slices.Collect(s.All())
	for size := 1; size <= len(want); size++ {
		var got []uint64
		s.All()(func(n uint64) bool {
			got = append(got, n)
			return len(got) < size
		})
		if !slices.Equal(got, want[:size]) {
			t.Errorf("stopped at %d: %v", size, got)
		}
	}
	next := uint64(0)
	for n := range (runs.Set{}.Span(0, most)).All() {
		if n != next {
			t.Fatalf("All of all numbers: %d where %d should be", n, next)
		}
		if next++; next == 1000 {
			break
		}
	}
	if next != 1000 {
		t.Errorf("All of all numbers ended at %d", next)
	}
}

// P3.2: Same goes by the numbers, however the sets came about.
func TestSame(t *testing.T) {
	a := runs.Of(1, 2, 3, 7)
	for _, b := range []runs.Set{
		runs.Of(7, 3, 2, 1, 1),
		runs.Set{}.Span(1, 3).Add(7),
		runs.Of(7).Add(2).Add(1).Add(3),
		runs.Set{}.Span(0, 9).Less(runs.Of(0, 4, 5, 6, 8, 9)),
		a.Union(a), a.Union(runs.Set{}), a.Less(runs.Set{}), a.From(0), a.Below(most), a.Span(9, 8),
	} {
		if !runs.Same(a, b) || !runs.Same(b, a) {
			t.Errorf("%v isn't the same as %v", b.Runs(), a.Runs())
		}
	}
	for _, b := range []runs.Set{{}, runs.Of(1, 2, 3), runs.Of(1, 2, 3, 7, 9), runs.Of(1, 2, 3, 8), runs.Of(1, 3, 7), runs.Of(0, 1, 2, 3, 7)} {
		if runs.Same(a, b) || runs.Same(b, a) {
			t.Errorf("%v is the same as %v", b.Runs(), a.Runs())
		}
	}
}

// overwrite writes over all of a list's memory, its spare room too.
func overwrite[T any](l []T, by T) {
	l = l[:cap(l)]
	for i := range l {
		l[i] = by
	}
}

// Rule of memory: Of neither changes nor keeps a list that is handed in, nor its spare room.
func TestOfMemory(t *testing.T) {
	whole := []uint64{7, 1, 3, 2, 99, 98}
	before := slices.Clone(whole)
	s := runs.Of(whole[:4]...)
	if !slices.Equal(whole, before) {
		t.Errorf("Of changed its list: %v", whole)
	}
	overwrite(whole, 50)
	if got := s.Runs(); !slices.Equal(got, wanted(1, 3, 7, 7)) {
		t.Errorf("Of kept its list: %v", got)
	}
}

// Rule of memory: nor does Make, whatever is made of its set.
func TestMakeMemory(t *testing.T) {
	whole := wanted(1, 3, 7, 7, 99, 99, 98, 98)
	before := slices.Clone(whole)
	s, _ := runs.Make(whole[:2])
	s.Add(4)
	s.Add(9)
	s.Union(runs.Of(8, 20))
	s.Less(runs.Of(2))
	s.Below(3)
	s.From(2)
	if !slices.Equal(whole, before) {
		t.Errorf("Make's list changed: %v", whole)
	}
	overwrite(whole, runs.Run{From: 50, To: 60})
	if got := s.Runs(); !slices.Equal(got, before[:2]) {
		t.Errorf("Make kept its list: %v", got)
	}
}

// Rule of memory: what Runs answers is the caller's own.
func TestRunsMemory(t *testing.T) {
	want := wanted(1, 3, 7, 7, 9, 9)
	s := runs.Of(1, 2, 3, 7, 9)
	alike := s.Span(5, 4)
	first, second := s.Runs(), s.Runs()
	overwrite(first, runs.Run{From: 50, To: 60})
	if !slices.Equal(second, want) || !slices.Equal(s.Runs(), want) || !slices.Equal(alike.Runs(), want) {
		t.Errorf("two answers of Runs share memory: %v, %v", second, s.Runs())
	}
	overwrite(second[:0], runs.Run{From: 50, To: 60})
	if !slices.Equal(s.Add(11).Less(runs.Of(11)).Runs(), want) {
		t.Errorf("the set shares memory with what Runs answered: %v", s.Runs())
	}
}

// made answers what all calls make of s, with n and another set.
func made(s, other runs.Set, n uint64) []runs.Set {
	return []runs.Set{
		s.Add(n), s.Span(n, n+5), s.Span(n+5, n), s.Union(other), other.Union(s),
		s.Less(other), other.Less(s), s.Below(n), s.From(n), s.From(0), s.Below(most),
	}
}

// P3.1: a set stays as it is, whatever is made of it or of what was made of it.
func TestNoneChanges(t *testing.T) {
	source := rand.New(rand.NewSource(6))
	sets := []runs.Set{{}, runs.Of(1, 2, 3, 7, 9, 30)}
	told := [][]runs.Run{nil, sets[1].Runs()}
	for range 3000 {
		a, b := source.Intn(len(sets)), source.Intn(len(sets))
		for _, s := range made(sets[a], sets[b], uint64(source.Intn(40))) {
			if len(sets) < 40 {
				sets, told = append(sets, s), append(told, s.Runs())
			} else if source.Intn(8) == 0 {
				at := source.Intn(len(sets))
				sets[at], told[at] = s, s.Runs()
			}
		}
		for i, s := range sets {
			if !slices.Equal(s.Runs(), told[i]) {
				t.Fatalf("a set changed from %v to %v", told[i], s.Runs())
			}
		}
	}
}

// P3.1: All goes through the set that it was asked of, also if others were made since.
func TestAllStays(t *testing.T) {
	s := runs.Of(1, 2, 5)
	all := s.All()
	s = s.Add(3).Less(runs.Of(1))
	if got := slices.Collect(all); !slices.Equal(got, []uint64{1, 2, 5}) {
		t.Errorf("All changed: %v", got)
	}
}

// P3.1, P3.2, P2: many numbers, in and out, against a map; the same set by whatever way.
func TestManyNumbers(t *testing.T) {
	source := rand.New(rand.NewSource(7))
	for _, first := range []uint64{0, 1000, most - 199} {
		var s runs.Set
		in := map[uint64]bool{}
		for range 2000 {
			n := first + uint64(source.Intn(200))
			if in[n] = source.Intn(3) > 0; in[n] {
				s = s.Add(n)
			} else {
				s = s.Less(runs.Of(n))
			}
		}
		var l []uint64
		for n, is := range in {
			if s.Has(n) != is {
				t.Fatalf("Has(%d) is %v", n, !is)
			}
			if is {
				l = append(l, n)
			}
		}
		if !runs.Same(s, runs.Of(l...)) || s.Count() != uint64(len(l)) {
			t.Fatalf("%v, want %v", s.Runs(), runs.Of(l...).Runs())
		}
		slices.Sort(l)
		if got := slices.Collect(s.All()); !slices.Equal(got, l) {
			t.Fatalf("All: %v, want %v", got, l)
		}
		again, ok := runs.Make(s.Runs())
		if !ok || !runs.Same(again, s) {
			t.Fatalf("Make of %v: %v", s.Runs(), ok)
		}
	}
}
