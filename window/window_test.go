package window_test

import (
	"math"
	"math/rand"
	"slices"
	"testing"

	"sumpter/api"
	"sumpter/runs"
	"sumpter/window"
)

const (
	// most is the greatest number there is, lowEnd the least that no Low may be.
	most   = math.MaxUint64
	lowEnd = 1 << 62
	// far is the least number of which nothing is promised.
	far = 1<<62 - 1<<11
)

// span answers the set of all numbers from one up to another.
func span(from, to uint64) runs.Set {
	return runs.Set{}.Span(from, to)
}

// of answers a window of these parts.
func of(low, width uint64, set runs.Set) window.Window {
	return window.Window{Low: low, Width: width, Set: set}
}

// is looks whether a window has these parts.
func is(t *testing.T, what string, w window.Window, low, width uint64, set runs.Set) {
	t.Helper()
	if w.Low != low || w.Width != width || !runs.Same(w.Set, set) {
		t.Fatalf("%s: Low %d, Width %d, Set %v, want %d, %d, %v", what, w.Low, w.Width, w.Set.Runs(), low, width, set.Runs())
	}
	if !window.Same(w, of(low, width, set)) {
		t.Fatalf("%s: it isn't the Same as one of its parts", what)
	}
}

// tells looks whether Takes and Had answer these for n.
func tells(t *testing.T, w window.Window, n uint64, takes, had bool) {
	t.Helper()
	if w.Takes(n) != takes || w.Had(n) != had {
		t.Fatalf("Low %d, Set %v: %d: Takes is %v, Had is %v", w.Low, w.Set.Runs(), n, w.Takes(n), w.Had(n))
	}
}

// P15.2: the chapter's example.
func TestExample(t *testing.T) {
	w := window.New(4).Put(2).Put(1)
	is(t, "2, 1", w, 2, 4, runs.Set{})
	w = w.Put(4)
	is(t, "4", w, 2, 4, runs.Of(4))
	is(t, "up to 4", w.Skip(4), 4, 4, runs.Set{})
}

// P15.1: New has a Low of 0 and no Set, of whatever width; Limit is Low and Width.
func TestNew(t *testing.T) {
	for _, x := range []struct {
		width uint64
		right bool
	}{
		{0, false}, {1, true}, {2, true}, {api.MaxWindow - 1, true}, {api.MaxWindow, true},
		{api.MaxWindow + 1, false}, {lowEnd, false}, {most, false},
	} {
		w := window.New(x.width)
		is(t, "New", w, 0, x.width, runs.Set{})
		if w.Right() != x.right || w.Limit() != x.width {
			t.Errorf("New(%d): Right is %v, Limit is %d", x.width, w.Right(), w.Limit())
		}
	}
	if (window.Window{}).Right() {
		t.Error("a zero Window is Right")
	}
}

// P15.1: Right of each part's edges.
func TestRight(t *testing.T) {
	for _, x := range []struct {
		low, width uint64
		set        runs.Set
		want       bool
	}{
		{0, 1, runs.Set{}, true},
		{5, 0, runs.Set{}, false},
		{5, 0, runs.Of(5), false},
		{5, api.MaxWindow, runs.Set{}, true},
		{5, api.MaxWindow + 1, runs.Set{}, false},
		{5, most, runs.Set{}, false},
		{lowEnd - 1, 1, runs.Set{}, true},
		{lowEnd - 1, api.MaxWindow, runs.Of(lowEnd+1, lowEnd-1+api.MaxWindow), true},
		{lowEnd - 1, api.MaxWindow, runs.Of(lowEnd+1, lowEnd+api.MaxWindow), false},
		{lowEnd - 1, 4, runs.Of(lowEnd), false},
		{lowEnd, 1, runs.Set{}, false},
		{lowEnd + 1, 1, runs.Set{}, false},
		{most, 1, runs.Set{}, false},
		{most, api.MaxWindow, runs.Of(5), false},
		// At Low and below, at Low and 1, and above that.
		{5, 4, runs.Of(0), false},
		{5, 4, runs.Of(4), false},
		{5, 4, runs.Of(5), false},
		{5, 4, runs.Of(6), false},
		{5, 4, runs.Of(7), true},
		{5, 4, span(5, 8), false},
		{5, 4, span(6, 8), false},
		{5, 4, runs.Of(6, 8), false},
		{5, 4, runs.Of(0, 8), false},
		{0, 4, runs.Of(0), false},
		{0, 4, runs.Of(1), false},
		{0, 4, runs.Of(2), true},
		// Up to the Limit, and beyond it.
		{5, 4, runs.Of(9), true},
		{5, 4, span(7, 9), true},
		{5, 4, runs.Of(7, 9), true},
		{5, 4, runs.Of(10), false},
		{5, 4, span(7, 10), false},
		{5, 4, runs.Of(7, 10), false},
		{5, 4, runs.Of(7, most), false},
		{5, 4, span(7, most), false},
		{5, 4, span(0, most), false},
		{5, api.MaxWindow, runs.Of(5 + api.MaxWindow), true},
		{5, api.MaxWindow, runs.Of(6 + api.MaxWindow), false},
		// A width of 1 has no room for a Set.
		{5, 1, runs.Of(6), false},
		{5, 1, runs.Of(7), false},
		{5, 2, runs.Of(7), true},
	} {
		if got := of(x.low, x.width, x.set).Right(); got != x.want {
			t.Errorf("Low %d, Width %d, Set %v: Right is %v", x.low, x.width, x.set.Runs(), got)
		}
	}
}

// P15.1: Limit is Low and Width.
func TestLimit(t *testing.T) {
	for _, x := range [][3]uint64{
		{0, 1, 1}, {5, 4, 9}, {5, api.MaxWindow, 5 + api.MaxWindow}, {lowEnd - 1, 1, lowEnd}, {lowEnd - 1, api.MaxWindow, lowEnd - 1 + api.MaxWindow},
	} {
		if got := of(x[0], x[1], runs.Set{}).Limit(); got != x[2] {
			t.Errorf("Low %d, Width %d: Limit is %d", x[0], x[1], got)
		}
	}
	if got := of(5, 4, runs.Of(7, 9)).Limit(); got != 9 {
		t.Errorf("with a Set: Limit is %d", got)
	}
}

// P15.2: Takes and Had of a number at Low, one above it, at the Limit, one above it, of one that is done.
func TestTakesHad(t *testing.T) {
	for _, low := range []uint64{0, 1, 5, 1 << 40, far - 20} {
		w := of(low, 8, runs.Of(low+3, low+4, low+7))
		for n := range low {
			if n > 6 {
				break
			}
			tells(t, w, n, false, true)
		}
		for _, n := range []uint64{0, low} {
			tells(t, w, n, false, true)
		}
		for _, n := range []uint64{3, 4, 7} {
			tells(t, w, low+n, false, true)
		}
		for _, n := range []uint64{1, 2, 5, 6, 8} {
			tells(t, w, low+n, true, false)
		}
		for _, n := range []uint64{low + 9, low + 10, low + api.MaxWindow + 1, most} {
			tells(t, w, n, false, false)
		}
	}
	w := of(3, 1, runs.Set{})
	tells(t, w, 3, false, true)
	tells(t, w, 4, true, false)
	tells(t, w, 5, false, false)
	w = of(3, 2, runs.Of(5))
	tells(t, w, 4, true, false)
	tells(t, w, 5, false, true)
	tells(t, w, 6, false, false)
}

// P15.2: a Put of one that isn't taken is the window itself.
func TestPutNot(t *testing.T) {
	set := runs.Of(8, 10)
	w := of(5, 6, set)
	for _, n := range []uint64{0, 1, 4, 5, 8, 10, 12, 13, 5 + api.MaxWindow, most} {
		is(t, "Put", w.Put(n), 5, 6, set)
	}
}

// P15.2: Put of one at Low and 1, at the Limit, and between, that joins what is done or doesn't.
func TestPut(t *testing.T) {
	set := runs.Of(8, 9, 11)
	w := of(5, 8, set)
	for _, x := range []struct {
		n, low uint64
		set    runs.Set
	}{
		{6, 6, set},
		{7, 5, runs.Of(7, 8, 9, 11)},
		{10, 5, runs.Of(8, 9, 10, 11)},
		{12, 5, runs.Of(8, 9, 11, 12)},
		{13, 5, runs.Of(8, 9, 11, 13)},
	} {
		is(t, "Put", w.Put(x.n), x.low, 8, x.set)
	}
	is(t, "the gap is closed from below", w.Put(6).Put(7), 9, 8, runs.Of(11))
	is(t, "the gap is closed from above", w.Put(7).Put(6), 9, 8, runs.Of(11))
	is(t, "all is done", w.Put(7).Put(10).Put(12).Put(13).Put(6), 13, 8, runs.Set{})
	is(t, "the window as it was", w, 5, 8, set)
	// The Limit goes on with Low.
	is(t, "beyond the Limit", w.Put(14), 5, 8, set)
	is(t, "no more beyond the Limit", w.Put(6).Put(14), 6, 8, runs.Of(8, 9, 11, 14))
	one := window.New(1)
	for n := uint64(1); n < 50; n++ {
		is(t, "beyond a Limit of one", one.Put(n+1), n-1, 1, runs.Set{})
		one = one.Put(n)
		is(t, "one by one", one, n, 1, runs.Set{})
	}
}

// P15.2: any order leads to the same window, which is Right all the way.
func TestPutOrder(t *testing.T) {
	source := rand.New(rand.NewSource(31))
	for range 200 {
		w := window.New(12)
		var done runs.Set
		for _, i := range source.Perm(12) {
			n := uint64(i) + 1
			tells(t, w, n, true, false)
			w = w.Put(n)
			tells(t, w, n, false, true)
			done = done.Add(n)
			gap, _ := done.Gap(1)
			is(t, "out of order", w, gap-1, 12, done.From(gap))
			if !w.Right() {
				t.Fatalf("Low %d, Set %v isn't Right", w.Low, w.Set.Runs())
			}
		}
		is(t, "all of them", w, 12, 12, runs.Set{})
	}
}

// P15.2: the widest window, filled from its Limit down, and first each other number of it.
func TestWidest(t *testing.T) {
	down, other := window.New(api.MaxWindow), window.New(api.MaxWindow)
	for n := uint64(api.MaxWindow); n > 1; n-- {
		down = down.Put(n)
		is(t, "from the Limit down", down, 0, api.MaxWindow, span(n, api.MaxWindow))
		if n%2 == 0 {
			other = other.Put(n)
		}
	}
	if !other.Right() || len(other.Runs(api.MaxWindow)) != api.MaxWindow/2 || len(other.Runs(api.MaxRuns)) != api.MaxRuns {
		t.Errorf("each other number: %d runs", len(other.Set.Runs()))
	}
	for n := uint64(1); n < api.MaxWindow; n += 2 {
		other = other.Put(n)
		is(t, "the others", other, n+1, api.MaxWindow, runs.Set{}.Union(other.Set.From(n+2)))
	}
	is(t, "each other number first", other, api.MaxWindow, api.MaxWindow, runs.Set{})
	is(t, "from the Limit down", down.Put(1), api.MaxWindow, api.MaxWindow, runs.Set{})
}

// P15.2: Skip to below Low, to Low and 1, into a run, to its end, behind it, beyond the Limit.
func TestSkip(t *testing.T) {
	set := runs.Of(8, 9, 10, 13)
	w := of(5, 8, set)
	for _, x := range []struct {
		base, low uint64
		set       runs.Set
	}{
		{0, 5, set}, {1, 5, set}, {4, 5, set}, {5, 5, set}, {6, 5, set},
		// What comes at base is done in the set, so that Low goes on to the run's end.
		{7, 6, set}, {8, 10, runs.Of(13)}, {9, 10, runs.Of(13)}, {10, 10, runs.Of(13)}, {11, 10, runs.Of(13)},
		{12, 11, runs.Of(13)}, {13, 13, runs.Set{}}, {14, 13, runs.Set{}},
		{15, 14, runs.Set{}}, {16, 15, runs.Set{}}, {5000, 4999, runs.Set{}}, {far - 1, far - 2, runs.Set{}},
	} {
		got := w.Skip(x.base)
		is(t, "Skip", got, x.low, 8, x.set)
		if !got.Right() {
			t.Errorf("Skip(%d) isn't Right", x.base)
		}
	}
	is(t, "the window as it was", w, 5, 8, set)
	is(t, "a new one, of 0", window.New(3).Skip(0), 0, 3, runs.Set{})
	is(t, "a new one, of 1", window.New(3).Skip(1), 0, 3, runs.Set{})
	is(t, "a new one, of 2", window.New(3).Skip(2), 1, 3, runs.Set{})
}

// P15.2: those at base and above stay as they are.
func TestSkipStays(t *testing.T) {
	w := of(5, 20, runs.Of(8, 12, 13, 20))
	got := w.Skip(11)
	is(t, "Skip", got, 10, 20, runs.Of(12, 13, 20))
	tells(t, got, 10, false, true)
	tells(t, got, 11, true, false)
	tells(t, got, 14, true, false)
	tells(t, got, 20, false, true)
	tells(t, got, 30, true, false)
	tells(t, got, 31, false, false)
	is(t, "and Put", got.Put(11), 13, 20, runs.Of(20))
}

// P15.1, P15.2: Lows near 2^62.
func TestFarLows(t *testing.T) {
	w := of(far-10, 1024, runs.Of(far-7, far-6))
	if !w.Right() || w.Limit() != far+1014 {
		t.Fatalf("Right is %v, Limit is %d", w.Right(), w.Limit())
	}
	is(t, "Put", w.Put(far-1), far-10, 1024, runs.Of(far-7, far-6, far-1))
	is(t, "Put", w.Put(far-9).Put(far-8), far-6, 1024, runs.Set{})
	is(t, "Skip", w.Skip(far-7), far-6, 1024, runs.Set{})
	is(t, "Skip", w.Skip(far-1), far-2, 1024, runs.Set{})
	last := of(lowEnd-1, 3, runs.Of(lowEnd+1))
	if !last.Right() || last.Limit() != lowEnd+2 {
		t.Fatalf("Right is %v, Limit is %d", last.Right(), last.Limit())
	}
	tells(t, last, lowEnd-1, false, true)
	tells(t, last, lowEnd, true, false)
	tells(t, last, lowEnd+1, false, true)
	tells(t, last, lowEnd+2, true, false)
	tells(t, last, lowEnd+3, false, false)
}

// P15.2: Runs of fewer, of as many, of more than there are, of 0 and below 0.
func TestRuns(t *testing.T) {
	w := of(5, 20, runs.Of(8, 9, 11, 14, 15, 16))
	all := []runs.Run{{From: 8, To: 9}, {From: 11, To: 11}, {From: 14, To: 16}}
	for _, x := range []struct {
		most int
		want []runs.Run
	}{
		{math.MinInt, nil}, {-1, nil}, {0, nil}, {1, all[:1]}, {2, all[:2]}, {3, all}, {4, all}, {api.MaxRuns, all}, {math.MaxInt, all},
	} {
		if got := w.Runs(x.most); !slices.Equal(got, x.want) {
			t.Errorf("Runs(%d) are %v, want %v", x.most, got, x.want)
		}
		if got := window.New(4).Runs(x.most); len(got) != 0 {
			t.Errorf("Runs(%d) of a new one are %v", x.most, got)
		}
	}
}

// P15.2: Same is told by each part.
func TestSame(t *testing.T) {
	w := of(5, 8, runs.Of(8, 9))
	if !window.Same(w, of(5, 8, runs.Of(9).Add(8))) || !window.Same(window.New(3), of(0, 3, runs.Of())) {
		t.Error("windows of the same parts aren't the Same")
	}
	for _, x := range []window.Window{
		of(4, 8, runs.Of(8, 9)), of(6, 8, runs.Of(8, 9)), of(5, 7, runs.Of(8, 9)), of(5, 9, runs.Of(8, 9)),
		of(5, 8, runs.Set{}), of(5, 8, runs.Of(8)), of(5, 8, runs.Of(9)), of(5, 8, runs.Of(8, 9, 10)), of(5, 8, runs.Of(8, 9, 13)), of(8, 5, runs.Of(8, 9)),
	} {
		if window.Same(w, x) || window.Same(x, w) {
			t.Errorf("%v is the Same as %v", x, w)
		}
	}
	if !window.Same(window.Window{}, window.Window{}) {
		t.Error("zero Windows aren't the Same")
	}
}

// Rule of values and of memory: what one does with a window changes no other, and Runs are the caller's own.
func TestValues(t *testing.T) {
	set := runs.Of(8, 9, 12)
	w := of(5, 20, set)
	copied := w
	for _, most := range []int{1, 2, 9} {
		l := w.Runs(most)
		whole := l[:cap(l)]
		for i := range whole {
			whole[i] = runs.Run{From: 77, To: 99}
		}
		again := w.Runs(9)
		if !slices.Equal(again, set.Runs()) {
			t.Fatalf("Runs written over: %v", again)
		}
	}
	w.Put(6).Put(7).Put(13)
	w.Skip(9).Put(11)
	copied.Low, copied.Set = 20, copied.Set.Add(30)
	is(t, "the window", w, 5, 20, runs.Of(8, 9, 12))
	is(t, "its copy", copied, 20, 20, runs.Of(8, 9, 12, 30))
	if !runs.Same(set, runs.Of(8, 9, 12)) {
		t.Errorf("the set has changed: %v", set.Runs())
	}
}

// P1, P2: whatever the window is, each call ends, none panics, and it answers the same again.
func TestAnything(t *testing.T) {
	numbers := []uint64{0, 1, 2, 5, 1023, 1024, 1025, far, lowEnd - 1, lowEnd, most - 1, most}
	sets := []runs.Set{{}, runs.Of(0), runs.Of(1), runs.Of(3, 9), runs.Of(most), span(0, most), span(1, most), span(0, most-1), span(0, 5)}
	for _, low := range numbers {
		for _, width := range numbers {
			for _, set := range sets {
				w := of(low, width, set)
				for _, n := range numbers {
					put, skipped := w.Put(n), w.Skip(n)
					if !window.Same(put, w.Put(n)) || !window.Same(skipped, w.Skip(n)) || w.Had(n) && w.Takes(n) {
						t.Fatalf("%v: %d: another answer", w, n)
					}
					if w.Takes(n) && !put.Had(n) || n > 0 && !skipped.Had(n-1) {
						t.Fatalf("%v: %d: it isn't done", w, n)
					}
					if n > 0 && skipped.Set.Has(skipped.Low) {
						t.Fatalf("%v: %d: the Low %d is in the Set", w, n, skipped.Low)
					}
				}
				w.Right()
				w.Limit()
				w.Runs(3)
				is(t, "behind all of it", w, low, width, set)
			}
		}
	}
}

// plain is a window done plainly: each number by itself.
type plain struct {
	width uint64
	done  map[uint64]bool
}

// low answers the greatest number up to which all are done.
func (p plain) low() uint64 {
	low := uint64(0)
	for p.done[low+1] {
		low++
	}
	return low
}

// takes is Takes.
func (p plain) takes(n uint64) bool {
	return n > 0 && !p.done[n] && n <= p.low()+p.width
}

// set answers those that are done above the low.
func (p plain) set() runs.Set {
	var set runs.Set
	for n := range p.done {
		if n > p.low() {
			set = set.Add(n)
		}
	}
	return set
}

// P15.1, P15.2, P7, P2: any calls; never more numbers out of order than the width.
func TestRandomCalls(t *testing.T) {
	source := rand.New(rand.NewSource(32))
	for range 200 {
		width := 1 + uint64(source.Intn(20))
		w, p := window.New(width), plain{width, map[uint64]bool{}}
		for range 100 {
			n := p.low() + uint64(source.Intn(int(width)+4))
			if source.Intn(12) == 0 {
				w = w.Skip(n)
				for i := uint64(1); i < n; i++ {
					p.done[i] = true
				}
			} else {
				takes := p.takes(n)
				tells(t, w, n, takes, n == 0 || p.done[n])
				w = w.Put(n)
				if takes {
					p.done[n] = true
				}
			}
			is(t, "any calls", w, p.low(), width, p.set())
			if !w.Right() || w.Set.Count() > width {
				t.Fatalf("Low %d, Width %d, Set %v isn't Right", w.Low, w.Width, w.Set.Runs())
			}
		}
	}
}
