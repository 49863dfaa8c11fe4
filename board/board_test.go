package board_test

import (
	"cmp"
	"math"
	"math/rand"
	"slices"
	"testing"

	"sumpter/api"
	"sumpter/board"
	"sumpter/pause"
	"sumpter/runs"
)

const (
	// most is the greatest number, far the greatest now.
	most = math.MaxUint64
	far  = 1 << 61
)

// made answers a board whose pauses are 2, 4, 8, 10, 10 ..
func made(t *testing.T) *board.Board {
	t.Helper()
	return of(t, pause.Params{First: 2, Most: 10})
}

// of answers a board with these pauses.
func of(t *testing.T, p pause.Params) *board.Board {
	t.Helper()
	b, err := board.New(p)
	if err != api.OK || b == nil {
		t.Fatalf("New(%v): %v, %d", p, b, err)
	}
	return b
}

// span answers the set of all numbers from one up to another.
func span(from, to uint64) runs.Set {
	return runs.Set{}.Span(from, to)
}

// one is a group as a board tells it: its tries, and its numbers.
type one struct {
	tries   int
	numbers []uint64
}

// holds looks whether just these groups are on their way, by all that a board tells of them.
func holds(t *testing.T, what string, b *board.Board, groups ...one) {
	t.Helper()
	var all []uint64
	for _, g := range groups {
		all = append(all, g.numbers...)
		for _, n := range g.numbers {
			if !b.Has(n) || b.Tries(n) != g.tries {
				t.Fatalf("%s: %d: Has is %v, Tries is %d, want %d", what, n, b.Has(n), b.Tries(n), g.tries)
			}
		}
	}
	if b.Count() != len(all) {
		t.Fatalf("%s: Count is %d, want %d", what, b.Count(), len(all))
	}
	if got := b.Flight(); !runs.Same(got, runs.Of(all...)) {
		t.Fatalf("%s: Flight is %v, want %v", what, got.Runs(), all)
	}
	if _, ok := b.Next(); ok != (len(all) > 0) {
		t.Fatalf("%s: Next is %v with %d on their way", what, ok, len(all))
	}
}

// lacks looks whether none of these is on its way.
func lacks(t *testing.T, what string, b *board.Board, numbers ...uint64) {
	t.Helper()
	for _, n := range numbers {
		if b.Has(n) || b.Tries(n) != 0 || b.Flight().Has(n) {
			t.Fatalf("%s: %d is on its way: %v, %d tries", what, n, b.Has(n), b.Tries(n))
		}
	}
}

// sends looks whether Send answers the group's number.
func sends(t *testing.T, b *board.Board, now int64, want uint64, l ...uint64) {
	t.Helper()
	if got := b.Send(now, l); got != want {
		t.Fatalf("Send(%d, %v) is %d, want %d", now, l, got, want)
	}
}

// takes looks whether Take answers these, and that they aren't on their way any more.
func takes(t *testing.T, b *board.Board, set runs.Set, want ...uint64) {
	t.Helper()
	if got := b.Take(set); !slices.Equal(got, want) {
		t.Fatalf("Take(%v) is %v, want %v", set.Runs(), got, want)
	}
	lacks(t, "taken", b, want...)
}

// comes looks whether just these groups are Due, in this order.
func comes(t *testing.T, b *board.Board, now int64, want ...[]uint64) {
	t.Helper()
	if got := b.Due(now); !slices.EqualFunc(got, want, slices.Equal[[]uint64]) {
		t.Fatalf("Due(%d) is %v, want %v", now, got, want)
	}
}

// next looks whether that is the least time.
func next(t *testing.T, b *board.Board, want int64) {
	t.Helper()
	if at, ok := b.Next(); at != want || !ok {
		t.Fatalf("Next is %d, %v, want %d", at, ok, want)
	}
}

// P13.1, P13.2: the chapter's example.
func TestExample(t *testing.T) {
	b := made(t)
	sends(t, b, 0, 1, 5, 7)
	takes(t, b, runs.Of(5), 5)
	comes(t, b, 2, []uint64{7})
	next(t, b, 6)
}

// P13.1: a new board has nothing on its way.
func TestNew(t *testing.T) {
	b := made(t)
	holds(t, "a new one", b)
	lacks(t, "a new one", b, 0, 1, most)
	takes(t, b, span(0, most))
	comes(t, b, far)
	holds(t, "a new one", b)
}

// P13.1: ErrArg and no board of params that aren't Right.
func TestNewWrong(t *testing.T) {
	for _, p := range []pause.Params{
		{}, {First: 0, Most: 1}, {First: -1, Most: 1}, {First: 2, Most: 1}, {First: 1, Most: 1<<40 + 1}, {First: 1, Most: 0},
		{First: math.MinInt64, Most: math.MaxInt64}, {First: math.MaxInt64, Most: math.MaxInt64}, {First: 1 << 40, Most: 1<<40 - 1},
	} {
		if b, err := board.New(p); b != nil || err != api.ErrArg {
			t.Errorf("New(%v): %v, %d", p, b, err)
		}
	}
	for _, p := range []pause.Params{{First: 1, Most: 1}, {First: 1, Most: 1 << 40}, {First: 1 << 40, Most: 1 << 40}} {
		sends(t, of(t, p), 7, 1, 1)
	}
}

// P13.1: a group is made of those that aren't on their way, each once; without any nothing happens.
func TestSend(t *testing.T) {
	b := made(t)
	sends(t, b, 0, 0)
	holds(t, "none", b)
	sends(t, b, 0, 1, 7, 3, 7, 7, 3)
	holds(t, "twice in a list", b, one{1, []uint64{3, 7}})
	next(t, b, 2)
	// Those that are on their way already stay in their group, and at its time.
	sends(t, b, 1, 2, 3, 5, 7, 0)
	holds(t, "some on their way", b, one{1, []uint64{3, 7}}, one{1, []uint64{0, 5}})
	for _, l := range [][]uint64{nil, {}, {3}, {5, 0}, {7, 7, 5, 3, 0}} {
		sends(t, b, 1, 0, l...)
		holds(t, "all on their way", b, one{1, []uint64{3, 7}}, one{1, []uint64{0, 5}})
	}
	sends(t, b, 1, 3, most, most-1)
	comes(t, b, 2, []uint64{3, 7})
	comes(t, b, 3, []uint64{0, 5}, []uint64{most - 1, most})
	holds(t, "behind Due", b, one{2, []uint64{3, 7}}, one{2, []uint64{0, 5}}, one{2, []uint64{most - 1, most}})
}

// P13.1: groups are numbered 1, 2, .., also behind Take and Clear, and those of which nothing was fresh don't count.
func TestGroupNumbers(t *testing.T) {
	b := made(t)
	for number := uint64(1); number <= 5; number++ {
		sends(t, b, 0, number, number*10)
		sends(t, b, 0, 0, number*10)
	}
	takes(t, b, span(0, 25), 10, 20)
	sends(t, b, 0, 6, 10)
	b.Clear()
	sends(t, b, 0, 0)
	sends(t, b, 0, 7, 10, 20)
	b.Clear()
	b.Clear()
	sends(t, b, 0, 8, 10)
	sends(t, b, 0, 9, 20)
}

// P13.1: who is sent anew behind a Take is of a new group: with one try, and its own time.
func TestSendAnew(t *testing.T) {
	b := made(t)
	sends(t, b, 0, 1, 1, 2)
	comes(t, b, 2, []uint64{1, 2})
	takes(t, b, runs.Of(2), 2)
	sends(t, b, 3, 2, 2, 1)
	holds(t, "one sent anew", b, one{2, []uint64{1}}, one{1, []uint64{2}})
	comes(t, b, 5, []uint64{2})
	comes(t, b, 6, []uint64{1})
	holds(t, "behind Due", b, one{3, []uint64{1}}, one{2, []uint64{2}})
	// A whole group that went comes back in another one.
	takes(t, b, runs.Of(1), 1)
	sends(t, b, 6, 3, 1)
	holds(t, "the other sent anew", b, one{1, []uint64{1}}, one{2, []uint64{2}})
	comes(t, b, 8, []uint64{1})
	comes(t, b, 9, []uint64{2})
}

// P13.1: Take of none, of some of a group, of all of it, of numbers of several groups.
func TestTake(t *testing.T) {
	b := made(t)
	sends(t, b, 0, 1, 1, 4, 7)
	sends(t, b, 1, 2, 2, 5, 8)
	sends(t, b, 2, 3, 3, 6, 9)
	groups := []one{{1, []uint64{1, 4, 7}}, {1, []uint64{2, 5, 8}}, {1, []uint64{3, 6, 9}}}
	for _, set := range []runs.Set{{}, runs.Of(0), runs.Of(10, 11, most), span(10, most), runs.Of(0).Union(span(10, most))} {
		takes(t, b, set)
		holds(t, "none", b, groups...)
	}
	takes(t, b, runs.Of(4), 4)
	takes(t, b, runs.Of(4))
	holds(t, "some of a group", b, one{1, []uint64{1, 7}}, groups[1], groups[2])
	takes(t, b, runs.Of(1, 4, 7), 1, 7)
	holds(t, "all of a group", b, groups[1], groups[2])
	next(t, b, 3)
	takes(t, b, span(5, 8), 5, 6, 8)
	holds(t, "of several groups", b, one{1, []uint64{2}}, one{1, []uint64{3, 9}})
	comes(t, b, 4, []uint64{2}, []uint64{3, 9})
	takes(t, b, span(0, most), 2, 3, 9)
	holds(t, "all", b)
	comes(t, b, far)
}

// P13.1: a group without any is gone: it is neither Due nor has it a time.
func TestGroupGone(t *testing.T) {
	b := made(t)
	sends(t, b, 0, 1, 1, 2)
	sends(t, b, 5, 2, 3)
	takes(t, b, runs.Of(1), 1)
	next(t, b, 2)
	takes(t, b, runs.Of(2), 2)
	next(t, b, 7)
	comes(t, b, 6)
	comes(t, b, 7, []uint64{3})
	takes(t, b, runs.Of(3), 3)
	holds(t, "nobody is left", b)
	comes(t, b, far)
}

// P13.1: sets with far more numbers, or runs, than there are on their way.
func TestTakeGreatSets(t *testing.T) {
	var odd []runs.Run
	for n := range uint64(50000) {
		odd = append(odd, runs.Run{From: 2*n + 1, To: 2*n + 1})
	}
	odds, _ := runs.Make(odd)
	for _, x := range []struct {
		set  runs.Set
		want []uint64
	}{
		{span(0, most), []uint64{0, 7, 8, 99999, 1 << 40, most}},
		{span(1, most-1), []uint64{7, 8, 99999, 1 << 40}},
		{span(8, most), []uint64{8, 99999, 1 << 40, most}},
		{span(0, 1<<40), []uint64{0, 7, 8, 99999, 1 << 40}},
		{span(0, 6).Union(span(9, most-1)), []uint64{0, 99999, 1 << 40}},
		{odds, []uint64{7, 99999}},
		{odds.Union(span(1<<20, most)), []uint64{7, 99999, 1 << 40, most}},
		{span(0, most).Less(odds), []uint64{0, 8, 1 << 40, most}},
	} {
		b := made(t)
		sends(t, b, 0, 1, 1<<40, 7, most)
		sends(t, b, 0, 2, 99999, 0, 8)
		takes(t, b, x.set, x.want...)
		if b.Count() != 6-len(x.want) {
			t.Errorf("Take(.. %d runs): %d are left", len(x.set.Runs()), b.Count())
		}
	}
}

// P13.1: whatever Take leaves stays as it was, wherever in the order what goes stands.
func TestTakeEverySubset(t *testing.T) {
	numbers := []uint64{0, 1, 2, 10, 20, 21, most - 1, most}
	for bits := range 1 << len(numbers) {
		b := made(t)
		sends(t, b, 0, 1, numbers[0], numbers[2], numbers[4], numbers[6])
		sends(t, b, 1, 2, numbers[1], numbers[3], numbers[5], numbers[7])
		var gone, first, second []uint64
		for i, n := range numbers {
			switch {
			case bits>>i&1 == 1:
				gone = append(gone, n)
			case i%2 == 0:
				first = append(first, n)
			default:
				second = append(second, n)
			}
		}
		takes(t, b, runs.Of(gone...), gone...)
		holds(t, "some gone", b, one{1, first}, one{1, second})
		var want [][]uint64
		for _, l := range [][]uint64{first, second} {
			if len(l) > 0 {
				want = append(want, l)
			}
		}
		comes(t, b, 5, want...)
	}
}

// P13.2: at the very time and one tick ahead of it, again and again till the waits no longer grow.
func TestDueAgain(t *testing.T) {
	b := made(t)
	sends(t, b, 0, 1, 4, 2)
	at := int64(0)
	for i, wait := range []int64{2, 4, 8, 10, 10, 10, 10} {
		next(t, b, at+wait)
		comes(t, b, at+wait-1)
		holds(t, "one tick ahead", b, one{i + 1, []uint64{2, 4}})
		comes(t, b, at+wait, []uint64{2, 4})
		comes(t, b, at+wait)
		holds(t, "at the very time", b, one{i + 2, []uint64{2, 4}})
		at += wait
	}
}

// P13.2: the next time counts from now, not from the time that was.
func TestDueLate(t *testing.T) {
	b := made(t)
	sends(t, b, 0, 1, 1)
	comes(t, b, 100, []uint64{1})
	next(t, b, 104)
	comes(t, b, 103)
	comes(t, b, 1000, []uint64{1})
	next(t, b, 1008)
	comes(t, b, 1008, []uint64{1})
	next(t, b, 1018)
}

// P13.2: of none, of some, of several groups: by their times, of one time by their numbers.
func TestDueOrder(t *testing.T) {
	b := made(t)
	comes(t, b, 0)
	sends(t, b, 3, 1, 10)
	sends(t, b, 0, 2, 9, 11)
	sends(t, b, 3, 3, 1)
	sends(t, b, 1, 4, 8)
	sends(t, b, 3, 5, 0)
	comes(t, b, 1)
	comes(t, b, 2, []uint64{9, 11})
	holds(t, "some", b, one{1, []uint64{10}}, one{2, []uint64{9, 11}}, one{1, []uint64{1}}, one{1, []uint64{8}}, one{1, []uint64{0}})
	// The second one's time is 6 now, those of the others are 5, 5, 3 and 5.
	comes(t, b, 6, []uint64{8}, []uint64{10}, []uint64{1}, []uint64{0}, []uint64{9, 11})
	holds(t, "several", b, one{2, []uint64{10}}, one{3, []uint64{9, 11}}, one{2, []uint64{1}}, one{2, []uint64{8}}, one{2, []uint64{0}})
	comes(t, b, 9)
	comes(t, b, 14, []uint64{10}, []uint64{1}, []uint64{8}, []uint64{0}, []uint64{9, 11})
}

// P13.2: many groups of one time, by their numbers and not by those in them.
func TestDueOneTime(t *testing.T) {
	b := made(t)
	var want [][]uint64
	for i := range uint64(100) {
		sends(t, b, 7, i+1, 1000-i)
		want = append(want, []uint64{1000 - i})
	}
	comes(t, b, 8)
	comes(t, b, 9, want...)
	comes(t, b, 13, want...)
}

// P13.2: a group's numbers come rising, however they were sent.
func TestDueRising(t *testing.T) {
	source := rand.New(rand.NewSource(21))
	for range 50 {
		b := made(t)
		var l []uint64
		for range 100 {
			l = append(l, source.Uint64()>>source.Intn(64))
		}
		sends(t, b, 0, 1, l...)
		slices.Sort(l)
		l = slices.Compact(l)
		comes(t, b, 2, l)
		takes(t, b, span(0, most), l...)
	}
}

// P13.1, P13.2: now at 0 and near 2^61, with the longest pauses.
func TestFarTimes(t *testing.T) {
	b := of(t, pause.Params{First: 1 << 40, Most: 1 << 40})
	sends(t, b, 0, 1, 1)
	sends(t, b, far, 2, 2)
	comes(t, b, 0)
	next(t, b, 1<<40)
	comes(t, b, 1<<40-1)
	comes(t, b, 1<<40, []uint64{1})
	next(t, b, 1<<41)
	comes(t, b, far-1, []uint64{1})
	comes(t, b, far)
	holds(t, "far", b, one{3, []uint64{1}}, one{1, []uint64{2}})
	next(t, b, far-1+1<<40)
	takes(t, b, runs.Of(1), 1)
	next(t, b, far+1<<40)
	b = of(t, pause.Params{First: 1, Most: 1})
	sends(t, b, far-1, 1, 1)
	comes(t, b, far-1)
	comes(t, b, far, []uint64{1})
	next(t, b, far+1)
}

// P13.1: behind Clear nothing is on its way, and all can be sent anew.
func TestClear(t *testing.T) {
	b := made(t)
	b.Clear()
	holds(t, "a new one", b)
	sends(t, b, 0, 1, 1, 2)
	sends(t, b, 1, 2, 3)
	comes(t, b, 2, []uint64{1, 2})
	b.Clear()
	holds(t, "behind Clear", b)
	lacks(t, "behind Clear", b, 1, 2, 3)
	comes(t, b, far)
	takes(t, b, span(0, most))
	sends(t, b, 3, 3, 2, 3, 4)
	holds(t, "sent anew", b, one{1, []uint64{2, 3, 4}})
	next(t, b, 5)
	comes(t, b, 5, []uint64{2, 3, 4})
	next(t, b, 9)
}

// P13.1, P13.2, P1: of a nil board.
func TestNil(t *testing.T) {
	var b *board.Board
	sends(t, b, 0, 0, 1, 2)
	sends(t, b, 0, 0)
	takes(t, b, span(0, most))
	comes(t, b, far)
	b.Clear()
	holds(t, "a nil board", b)
	lacks(t, "a nil board", b, 0, 1, most)
	if at, ok := b.Next(); at != 0 || ok {
		t.Errorf("Next of a nil board is %d, %v", at, ok)
	}
	if b.Take(runs.Of(1)) != nil || b.Due(0) != nil {
		t.Error("a nil board answers lists")
	}
}

// P13.2: false and 0 where there is no group, ahead of the first one and behind the last.
func TestNextNone(t *testing.T) {
	b := made(t)
	none := func(what string) {
		if at, ok := b.Next(); at != 0 || ok {
			t.Errorf("%s: Next is %d, %v", what, at, ok)
		}
	}
	none("a new one")
	sends(t, b, 7, 1, 1)
	takes(t, b, runs.Of(1), 1)
	none("all taken")
	sends(t, b, 7, 2, 1)
	b.Clear()
	none("behind Clear")
}

// P1: any times at all.
func TestAnyTimes(t *testing.T) {
	times := []int64{math.MinInt64, -1, 0, 1, far, far + 1, math.MaxInt64 - 1, math.MaxInt64}
	for _, sent := range times {
		for _, due := range times {
			b := of(t, pause.Params{First: 1, Most: 1 << 40})
			sends(t, b, sent, 1, 1, 2)
			b.Due(due)
			b.Due(sent)
			takes(t, b, span(0, most), 1, 2)
			holds(t, "all taken", b)
		}
	}
}

// roomy answers the list with spare room behind it that is filled.
func roomy(l ...uint64) []uint64 {
	whole := append(slices.Clone(l), 77, 78, 79)
	return whole[:len(l)]
}

// overwrite writes over a list and its spare room.
func overwrite(l []uint64) {
	whole := l[:cap(l)]
	for i := range whole {
		whole[i] = 5555
	}
}

// Rule of memory: what is sent isn't changed, nor its spare room, and not kept.
func TestSentLists(t *testing.T) {
	b := made(t)
	l := roomy(9, 3, 9, 1)
	sends(t, b, 0, 1, l...)
	if !slices.Equal(l[:7], []uint64{9, 3, 9, 1, 77, 78, 79}) {
		t.Errorf("what was sent has changed: %v", l[:7])
	}
	overwrite(l)
	holds(t, "written over", b, one{1, []uint64{1, 3, 9}})
	comes(t, b, 2, []uint64{1, 3, 9})
	takes(t, b, span(0, most), 1, 3, 9)
}

// Rule of memory: a set that takes stays as it was.
func TestTakenSets(t *testing.T) {
	b := made(t)
	set := span(2, 5).Add(9)
	sends(t, b, 0, 1, 1, 3, 9)
	takes(t, b, set, 3, 9)
	sends(t, b, 0, 2, 3, 9, 20)
	takes(t, b, set, 3, 9)
	if !runs.Same(set, runs.Of(2, 3, 4, 5, 9)) {
		t.Errorf("a set that took has changed: %v", set.Runs())
	}
}

// Rule of memory: what is answered is the caller's own, each list of it by itself.
func TestAnsweredLists(t *testing.T) {
	b := made(t)
	sends(t, b, 0, 1, 1, 2, 3)
	sends(t, b, 0, 2, 4, 5, 6)
	sends(t, b, 0, 3, 7, 8, 9)
	flight := b.Flight()
	first := b.Due(2)
	for i, l := range first {
		overwrite(l)
		for j, other := range first {
			if j > i && slices.Contains(other[:cap(other)], 5555) {
				t.Errorf("list %d of an answer is in list %d", j, i)
			}
		}
	}
	overwrite(first[0])
	whole := first[:cap(first)]
	clear(whole)
	comes(t, b, 6, []uint64{1, 2, 3}, []uint64{4, 5, 6}, []uint64{7, 8, 9})
	taken := b.Take(runs.Of(2, 5, 8))
	overwrite(taken)
	again := b.Take(runs.Of(1))
	if slices.Contains(again[:cap(again)], 5555) {
		t.Error("an answer of Take is in an earlier one")
	}
	overwrite(again)
	groups := []one{{3, []uint64{3}}, {3, []uint64{4, 6}}, {3, []uint64{7, 9}}}
	holds(t, "written over", b, groups...)
	comes(t, b, 14, []uint64{3}, []uint64{4, 6}, []uint64{7, 9})
	// An answer of earlier doesn't follow what happens.
	if !runs.Same(flight, span(1, 9)) {
		t.Errorf("a Flight has changed: %v", flight.Runs())
	}
}

// Two boards know nothing of each other.
func TestTwoBoards(t *testing.T) {
	a, b := made(t), of(t, pause.Params{First: 5, Most: 5})
	sends(t, a, 0, 1, 1, 2)
	holds(t, "the other", b)
	sends(t, b, 0, 1, 1)
	next(t, b, 5)
	next(t, a, 2)
	a.Clear()
	sends(t, a, 0, 2, 3)
	holds(t, "the other", b, one{1, []uint64{1}})
	takes(t, b, span(0, most), 1)
	holds(t, "the one", a, one{1, []uint64{3}})
}

// lot is a group of the plain board.
type lot struct {
	number  uint64
	tries   int
	at      int64
	numbers []uint64
}

// plain is a board done plainly: a list of groups that is gone through each time.
type plain struct {
	pause pause.Params
	last  uint64
	lots  []*lot
}

// home answers n's group, or nil.
func (p *plain) home(n uint64) *lot {
	for _, g := range p.lots {
		if slices.Contains(g.numbers, n) {
			return g
		}
	}
	return nil
}

// send is Send.
func (p *plain) send(now int64, l []uint64) uint64 {
	var fresh []uint64
	for _, n := range l {
		if p.home(n) == nil && !slices.Contains(fresh, n) {
			fresh = append(fresh, n)
		}
	}
	if len(fresh) == 0 {
		return 0
	}
	p.last++
	slices.Sort(fresh)
	p.lots = append(p.lots, &lot{p.last, 1, now + p.pause.Wait(0), fresh})
	return p.last
}

// take is Take.
func (p *plain) take(set runs.Set) []uint64 {
	var gone []uint64
	var left []*lot
	for _, g := range p.lots {
		var stay []uint64
		for _, n := range g.numbers {
			if set.Has(n) {
				gone = append(gone, n)
			} else {
				stay = append(stay, n)
			}
		}
		if g.numbers = stay; len(stay) > 0 {
			left = append(left, g)
		}
	}
	p.lots = left
	slices.Sort(gone)
	return gone
}

// due is Due.
func (p *plain) due(now int64) [][]uint64 {
	slices.SortFunc(p.lots, func(a, b *lot) int { return cmp.Or(cmp.Compare(a.at, b.at), cmp.Compare(a.number, b.number)) })
	var due [][]uint64
	for _, g := range p.lots {
		if g.at > now {
			break
		}
		due = append(due, slices.Clone(g.numbers))
		g.at = now + p.pause.Wait(g.tries)
		g.tries++
	}
	return due
}

// alike looks whether the board tells what the plain one does.
func alike(t *testing.T, b *board.Board, p *plain) {
	t.Helper()
	var groups []one
	var least int64
	for i, g := range p.lots {
		groups = append(groups, one{g.tries, g.numbers})
		if i == 0 || g.at < least {
			least = g.at
		}
	}
	holds(t, "any calls", b, groups...)
	if at, _ := b.Next(); at != least {
		t.Fatalf("Next is %d, want %d", at, least)
	}
}

// some answers a set of a few numbers, of many, or of all from one up to another.
func some(source *rand.Rand) runs.Set {
	from := uint64(source.Intn(40))
	switch source.Intn(4) {
	case 0:
		return runs.Of(from, uint64(source.Intn(40)), uint64(source.Intn(40)))
	case 1:
		return span(0, from)
	case 2:
		return span(from, most)
	}
	return span(from, from+uint64(source.Intn(6)))
}

// P13.1, P13.2, P2: any calls.
func TestRandomCalls(t *testing.T) {
	source := rand.New(rand.NewSource(22))
	for range 300 {
		params := pause.Params{First: 1 + source.Int63n(4), Most: 4 + source.Int63n(20)}
		b, p := of(t, params), &plain{pause: params}
		now := int64(0)
		for range 150 {
			now += source.Int63n(4)
			switch source.Intn(8) {
			case 0, 1, 2:
				var l []uint64
				for range source.Intn(6) {
					l = append(l, uint64(source.Intn(40)))
				}
				sends(t, b, now, p.send(now, l), l...)
			case 3, 4:
				set := some(source)
				takes(t, b, set, p.take(set)...)
			case 5, 6:
				comes(t, b, now, p.due(now)...)
			case 7:
				if source.Intn(10) == 0 {
					b.Clear()
					p.lots = nil
				}
			}
			alike(t, b, p)
		}
	}
}

// P1: a great many numbers at once and one by one.
func TestMany(t *testing.T) {
	const many = 20000
	b := made(t)
	var l []uint64
	for i := range uint64(many) {
		l = append(l, i*7919%many*2)
	}
	sends(t, b, 0, 1, l...)
	comes(t, b, 1)
	if due := b.Due(2); len(due) != 1 || len(due[0]) != many || !slices.IsSorted(due[0]) {
		t.Fatal("not all are Due")
	}
	for _, n := range l {
		if gone := b.Take(runs.Of(n)); !slices.Equal(gone, []uint64{n}) || b.Has(n) {
			t.Fatalf("Take of %d: %v", n, gone)
		}
	}
	holds(t, "one by one", b)
	for i, n := range l {
		sends(t, b, 3, uint64(i)+2, n)
	}
	if b.Count() != many || b.Flight().Count() != many {
		t.Fatalf("%d are on their way", b.Count())
	}
	if due := b.Due(5); len(due) != many || due[1][0] != l[1] {
		t.Fatalf("%d groups are Due", len(due))
	}
	if gone := b.Take(span(0, most)); len(gone) != many || !slices.IsSorted(gone) {
		t.Fatalf("%d are taken", len(gone))
	}
	holds(t, "at once", b)
}
