package pause_test

import (
	"math"
	"math/big"
	"math/rand"
	"testing"

	"sumpter/pause"
)

const (
	// most is the greatest Most, far the greatest sum.
	most = 1 << 40
	far  = 1 << 62
)

// waits looks whether Wait answers that.
func waits(t *testing.T, first, greatest int64, tries int, want int64) {
	t.Helper()
	if got := (pause.Params{First: first, Most: greatest}).Wait(tries); got != want {
		t.Errorf("first %d, most %d: Wait(%d) is %d, want %d", first, greatest, tries, got, want)
	}
}

// sums looks whether All answers that.
func sums(t *testing.T, first, greatest int64, tries int, want int64) {
	t.Helper()
	if got := (pause.Params{First: first, Most: greatest}).All(tries); got != want {
		t.Errorf("first %d, most %d: All(%d) is %d, want %d", first, greatest, tries, got, want)
	}
}

// P11.1: First is 1 or more, Most is First or more, and 2^40 at most.
func TestRight(t *testing.T) {
	for _, x := range []struct {
		first, most int64
		want        bool
	}{
		{1, 1, true}, {1, 2, true}, {2, 10, true}, {1, most, true}, {most, most, true}, {most - 1, most, true},
		{0, 0, false}, {0, 1, false}, {0, most, false}, {-1, 5, false}, {-5, -1, false}, {-1, -1, false},
		{2, 1, false}, {5, 4, false}, {most, most - 1, false}, {most + 1, most, false}, {1, 0, false}, {1, -1, false},
		{1, most + 1, false}, {most + 1, most + 1, false}, {1, math.MaxInt64, false}, {math.MaxInt64, math.MaxInt64, false},
		{math.MinInt64, 5, false}, {math.MinInt64, math.MinInt64, false}, {1, math.MinInt64, false}, {math.MaxInt64, 1, false},
	} {
		if got := (pause.Params{First: x.first, Most: x.most}).Right(); got != x.want {
			t.Errorf("first %d, most %d: Right is %v", x.first, x.most, got)
		}
	}
	if (pause.Params{}).Right() {
		t.Error("zero Params are Right")
	}
}

// P11.1: First doubled with each try, but Most at most.
func TestWait(t *testing.T) {
	for tries, want := range []int64{2, 4, 8, 10, 10, 10} {
		waits(t, 2, 10, tries, want)
	}
	for tries, want := range []int64{3, 6, 12, 12, 12} {
		waits(t, 3, 12, tries, want)
	}
	for tries, want := range []int64{1, 2, 4, 4} {
		waits(t, 1, 4, tries, want)
	}
	for tries, want := range []int64{1, 2, 3, 3} {
		waits(t, 1, 3, tries, want)
	}
	for _, tries := range []int{math.MinInt, -64, -1, 0, 1, 2, 40, 63, 64, 65, math.MaxInt} {
		waits(t, 7, 7, tries, 7)
		waits(t, 1, 1, tries, 1)
		waits(t, most, most, tries, most)
	}
}

// P11.1: tries below 0 are as 0.
func TestWaitBelow(t *testing.T) {
	for _, tries := range []int{0, -1, -2, -40, -64, math.MinInt + 1, math.MinInt} {
		waits(t, 2, 10, tries, 2)
		waits(t, 1, most, tries, 1)
	}
}

// P11.1: so many tries that what is doubled has more than 64 bits.
func TestWaitFar(t *testing.T) {
	for tries := range 41 {
		waits(t, 1, most, tries, 1<<tries)
	}
	waits(t, 1, most-1, 39, 1<<39)
	waits(t, 1, most-1, 40, most-1)
	waits(t, 3, most, 38, 3<<38)
	waits(t, 3, most, 39, most)
	waits(t, most-1, most, 1, most)
	for _, tries := range []int{41, 42, 61, 62, 63, 64, 65, 127, 128, 1 << 32, 1<<32 + 1, math.MaxInt - 1, math.MaxInt} {
		waits(t, 1, most, tries, most)
		waits(t, 1, 5, tries, 5)
		// Wrapped round, these would be 0, or below 0.
		waits(t, 1<<24, most, tries, most)
		waits(t, 1<<39, most, tries, most)
		waits(t, 1<<39+1, most-1, tries, most-1)
	}
}

// P11.1: the waits of the tries from 0 on together.
func TestAll(t *testing.T) {
	for tries, want := range []int64{0, 2, 6, 14, 24, 34, 44} {
		sums(t, 2, 10, tries, want)
	}
	for tries, want := range []int64{0, 7, 14, 21} {
		sums(t, 7, 7, tries, want)
	}
	for tries, want := range []int64{0, 1, 3, 7, 11} {
		sums(t, 1, 4, tries, want)
	}
	for _, tries := range []int{0, -1, -64, math.MinInt} {
		sums(t, 2, 10, tries, 0)
		sums(t, most, most, tries, 0)
	}
	for tries := range 42 {
		sums(t, 1, most, tries, 1<<tries-1)
	}
	sums(t, 1, most, 42, 3*most-1)
	sums(t, 1, most, 64, 25*most-1)
	sums(t, 1, 1, 40, 40)
	sums(t, 1, 1, 64, 64)
}

// P11.1: sums that reach 2^62, and those just below.
func TestAllFar(t *testing.T) {
	sums(t, most, most, 1<<22-1, far-most)
	sums(t, most, most, 1<<22, far)
	sums(t, most, most, 1<<22+1, far)
	sums(t, 1, 1, far-1, far-1)
	sums(t, 1, 1, far, far)
	sums(t, 1, 1, far+1, far)
	// 1, and 2 each time: always odd.
	sums(t, 1, 2, 1<<61, far-1)
	sums(t, 1, 2, 1<<61+1, far)
	// 2, and 4 each time.
	sums(t, 2, 4, 1<<60, far-2)
	sums(t, 2, 4, 1<<60+1, far)
	// 1, 2, 4 .. up to 2^39 are 2^40 - 1 together.
	sums(t, 1, most, 40+1<<22-1, far-1)
	sums(t, 1, most, 40+1<<22, far)
	for _, tries := range []int{1 << 62, 1<<63 - 1<<22, math.MaxInt - 1, math.MaxInt} {
		for _, greatest := range []int64{1, 2, 3, 1 << 20, most - 1, most} {
			sums(t, 1, greatest, tries, far)
			sums(t, greatest, greatest, tries, far)
		}
	}
}

// slowly answers Wait and All a second way, in numbers of any size.
func slowly(p pause.Params, tries int) (wait, all int64) {
	next, sum := big.NewInt(p.First), new(big.Int)
	greatest := big.NewInt(p.Most)
	for range tries {
		sum.Add(sum, next)
		next = new(big.Int).Lsh(next, 1)
		if next.Cmp(greatest) > 0 {
			next = greatest
		}
	}
	if sum.Cmp(big.NewInt(far)) > 0 {
		sum = big.NewInt(far)
	}
	return next.Int64(), sum.Int64()
}

// P11.1: Params of all kinds that are Right.
func TestRandom(t *testing.T) {
	source := rand.New(rand.NewSource(11))
	for range 5000 {
		greatest := 1 + source.Int63n(most)>>source.Intn(41)
		p := pause.Params{First: 1 + source.Int63n(greatest)>>source.Intn(41), Most: greatest}
		if !p.Right() {
			t.Fatalf("%v isn't Right", p)
		}
		tries := source.Intn(100)
		wait, all := slowly(p, tries)
		if p.Wait(tries) != wait || p.All(tries) != all {
			t.Fatalf("%v: %d tries: %d, %d, want %d, %d", p, tries, p.Wait(tries), p.All(tries), wait, all)
		}
		// Far behind, each further try adds Most.
		many := 100 + source.Intn(1<<21)
		if got, want := p.All(many), p.All(100)+int64(many-100)*greatest; got != want {
			t.Fatalf("%v: All(%d) is %d, want %d", p, many, got, want)
		}
	}
}

// P1, P2: whatever the Params are, each call ends, none panics, and it answers the same again.
func TestAnything(t *testing.T) {
	numbers := []int64{math.MinInt64, math.MinInt64 + 1, -most, -1, 0, 1, 2, 3, most - 1, most, most + 1, far, math.MaxInt64 - 1, math.MaxInt64}
	tries := []int{math.MinInt, -64, -1, 0, 1, 2, 40, 41, 62, 63, 64, 65, 1 << 40, math.MaxInt}
	for _, first := range numbers {
		for _, greatest := range numbers {
			for _, n := range tries {
				p := pause.Params{First: first, Most: greatest}
				again := p
				if p.Wait(n) != again.Wait(n) || p.All(n) != again.All(n) || p.Right() != again.Right() {
					t.Errorf("%v, %d tries: another answer", p, n)
				}
				if p != again {
					t.Errorf("%v has changed", again)
				}
			}
		}
	}
}
