package share_test

import (
	"math"
	"math/big"
	"math/rand"
	"slices"
	"testing"

	"sumpter/api"
	"sumpter/share"
)

// plans looks whether Plan answers just these Victims.
func plans(t *testing.T, what string, capacity int, weights []int, queued [][]int, class, size int, want ...share.Victim) {
	t.Helper()
	got, ok := share.Plan(capacity, weights, queued, class, size)
	if !ok || !slices.Equal(got, want) {
		t.Errorf("%s: Plan is %v, %v, want %v", what, got, ok, want)
	}
}

// asked looks whether a Plan can be asked for.
func asked(t *testing.T, what string, want bool, capacity int, weights []int, queued [][]int, class, size int) {
	t.Helper()
	got, ok := share.Plan(capacity, weights, queued, class, size)
	if ok != want || !ok && got != nil {
		t.Errorf("%s: Plan is %.100v, %v", what, got, ok)
	}
}

// P8.1: weights of 1 to api.MaxClasses classes, each from 1 to 1000.
func TestRight(t *testing.T) {
	for n := range api.MaxClasses + 3 {
		weights := slices.Repeat([]int{7}, n)
		if got, want := share.Right(weights), n >= 1 && n <= api.MaxClasses; got != want {
			t.Errorf("Right of %d classes is %v", n, got)
		}
		for i := range n {
			for _, w := range []int{math.MinInt, -1, 0, 1, 2, 999, 1000, 1001, math.MaxInt} {
				with := slices.Clone(weights)
				with[i] = w
				if got, want := share.Right(with), n <= api.MaxClasses && w >= 1 && w <= 1000; got != want {
					t.Errorf("Right(%v) is %v", with, got)
				}
			}
		}
	}
	if share.Right(nil) || share.Right([]int{}) {
		t.Error("no weights are Right")
	}
}

// P8.1: the bytes times all weights, less the capacity times its own.
func TestExcess(t *testing.T) {
	for _, x := range []struct {
		capacity int
		weights  []int
		class    int
		bytes    int
		want     int64
	}{
		{100, []int{1, 4}, 0, 30, 50},
		{100, []int{1, 4}, 1, 60, -100},
		{100, []int{1, 4}, 0, 20, 0},
		{100, []int{1, 4}, 0, 21, 5},
		{100, []int{1, 4}, 1, 79, -5},
		{100, []int{1}, 0, 101, 1},
		{0, []int{3, 2}, 0, 1, 5},
		{0, []int{3, 2}, 1, 0, 0},
		{-10, []int{3, 2}, 1, 0, 20},
		{10, []int{3, 2}, 1, -1, -25},
		{1 << 40, []int{1000, 1000, 1000, 1000, 1000, 1000, 1000, 1000}, 7, 1 << 40, 7000 << 40},
		{1 << 40, []int{1, 1000}, 1, 0, -1000 << 40},
		{100, []int{1, 4}, -1, 30, 0},
		{100, []int{1, 4}, 2, 30, 0},
		{100, []int{1, 4}, math.MinInt, 30, 0},
		{100, []int{1, 4}, math.MaxInt, 30, 0},
		{100, []int{0, 4}, 1, 300, 0},
		{100, []int{1, 1001}, 0, 300, 0},
		{100, nil, 0, 300, 0},
		{100, slices.Repeat([]int{1}, 9), 0, 300, 0},
	} {
		if got := share.Excess(x.capacity, x.weights, x.class, x.bytes); got != x.want {
			t.Errorf("Excess(%d, %v, %d, %d) is %d, want %d", x.capacity, x.weights, x.class, x.bytes, got, x.want)
		}
	}
}

// P8.1, P1: it is above 0 just if the class has more than its share, at all numbers: what 64 bits don't hold is the greatest, or the least.
func TestExcessGreat(t *testing.T) {
	source := rand.New(rand.NewSource(8))
	great := []int{0, 1, -1, 1 << 31, 1 << 32, 1<<32 - 1, -1 << 32, 1 << 50, 1 << 62, -1 << 62, math.MaxInt, math.MinInt, math.MaxInt / 1000, math.MaxInt/1000 + 1}
	for range 20000 {
		weights := make([]int, 1+source.Intn(api.MaxClasses))
		sum := 0
		for i := range weights {
			weights[i] = 1 + source.Intn(1000)
			sum += weights[i]
		}
		class := source.Intn(len(weights))
		capacity, bytes := great[source.Intn(len(great))], great[source.Intn(len(great))]
		if source.Intn(2) == 0 {
			capacity, bytes = int(source.Uint64())>>source.Intn(64), int(source.Uint64())>>source.Intn(64)
		}
		want := new(big.Int).Mul(big.NewInt(int64(bytes)), big.NewInt(int64(sum)))
		want.Sub(want, new(big.Int).Mul(big.NewInt(int64(capacity)), big.NewInt(int64(weights[class]))))
		if least := big.NewInt(math.MinInt64); want.Cmp(least) < 0 {
			want = least
		}
		if greatest := big.NewInt(math.MaxInt64); want.Cmp(greatest) > 0 {
			want = greatest
		}
		if got := share.Excess(capacity, weights, class, bytes); got != want.Int64() {
			t.Fatalf("Excess(%d, %v, %d, %d) is %d, want %v", capacity, weights, class, bytes, got, want)
		}
	}
}

// P8.1: all sizes together.
func TestTotal(t *testing.T) {
	for _, x := range []struct {
		queued [][]int
		want   int
	}{
		{nil, 0}, {[][]int{}, 0}, {[][]int{nil}, 0}, {[][]int{{}, nil}, 0}, {[][]int{{0}}, 0},
		{[][]int{{1, 2}, {3}}, 6}, {[][]int{nil, {1 << 20, 1 << 20}, {5}}, 1<<21 + 5},
	} {
		if got := share.Total(x.queued); got != x.want {
			t.Errorf("Total(%v) is %d, want %d", x.queued, got, x.want)
		}
	}
}

// P8.2: of the class with the greatest excess the oldest one goes.
func TestPlan(t *testing.T) {
	plans(t, "the chapter's", 10, []int{1, 1}, [][]int{{4, 4}, nil}, 1, 4, share.Victim{Class: 0, Place: 0})
	two := [][]int{{10, 5, 15}, {30, 30}}
	plans(t, "one goes", 100, []int{1, 4}, two, 1, 20, share.Victim{Class: 0, Place: 0})
	plans(t, "two go", 100, []int{1, 4}, two, 1, 50, share.Victim{Class: 1, Place: 0}, share.Victim{Class: 0, Place: 0})
	plans(t, "as many as must", 20, []int{1}, [][]int{{3, 4, 5, 6}}, 0, 14, share.Victim{Place: 0}, share.Victim{Place: 1}, share.Victim{Place: 2})
	plans(t, "in turns", 9, []int{1, 2}, [][]int{{3, 3, 3}, {6, 6}}, 1, 1,
		share.Victim{Class: 1, Place: 0}, share.Victim{Class: 0, Place: 0}, share.Victim{Class: 0, Place: 1}, share.Victim{Class: 1, Place: 1})
}

// P8.2: none goes that needn't.
func TestPlanNone(t *testing.T) {
	plans(t, "nothing queued", 5, []int{1}, [][]int{nil}, 0, 5)
	plans(t, "just the capacity", 10, []int{1, 9}, [][]int{{4, 2}, {1}}, 0, 3)
	plans(t, "one above it", 10, []int{1, 9}, [][]int{{4, 2}, {1}}, 0, 4, share.Victim{Class: 0, Place: 0})
	plans(t, "no capacity, no size", 0, []int{1}, [][]int{{0, 0}}, 0, 0)
	plans(t, "no room for any", 0, []int{1}, [][]int{{0, 1, 0}}, 0, 0, share.Victim{Place: 0}, share.Victim{Place: 1})
}

// P8.2: of equal excesses that of the least number.
func TestPlanEqual(t *testing.T) {
	plans(t, "three alike", 6, []int{2, 2, 2}, [][]int{{3}, {3}, nil}, 2, 3, share.Victim{Class: 0, Place: 0})
	plans(t, "three alike, two go", 3, []int{2, 2, 2}, [][]int{{3}, {3}, nil}, 2, 3, share.Victim{Class: 0, Place: 0}, share.Victim{Class: 1, Place: 0})
	plans(t, "the last two alike", 6, []int{2, 2, 2}, [][]int{{2}, {3}, {3}}, 0, 0, share.Victim{Class: 1, Place: 0})
	plans(t, "by their weights", 6, []int{1, 2}, [][]int{{2, 1}, {5}}, 1, 0, share.Victim{Class: 0, Place: 0})
}

// P8.2: the one that comes is the newest of its class, and may have to go itself.
func TestPlanItself(t *testing.T) {
	plans(t, "alone of its class", 100, []int{1, 4}, [][]int{nil, {40, 40}}, 0, 50, share.Victim{})
	plans(t, "behind the others", 100, []int{1, 4}, [][]int{{5, 5}, {40, 40}}, 0, 50, share.Victim{Place: 0}, share.Victim{Place: 1}, share.Victim{Place: 2})
	plans(t, "of the last class", 50, []int{4, 1}, [][]int{{20, 20}, nil}, 1, 50, share.Victim{Class: 1, Place: 0})
	plans(t, "others of its class suffice", 100, []int{1, 4}, [][]int{{50, 10}, nil}, 0, 50, share.Victim{Place: 0})
}

// P8.2: sizes of 0 go as the others do.
func TestPlanZero(t *testing.T) {
	plans(t, "the oldest is of size 0", 5, []int{1, 1}, [][]int{{0, 0, 3}, {2}}, 0, 2,
		share.Victim{Place: 0}, share.Victim{Place: 1}, share.Victim{Place: 2})
	plans(t, "one of size 0 comes", 4, []int{1, 1}, [][]int{{3}, {2}}, 1, 0, share.Victim{Class: 0, Place: 0})
}

// P8.2: what can't be asked.
func TestPlanRefused(t *testing.T) {
	weights, queued := []int{1, 4}, [][]int{{1}, {2, 3}}
	asked(t, "right", true, 10, weights, queued, 0, 5)
	for _, w := range [][]int{nil, {}, {0, 4}, {1, 1001}, {1, -1}} {
		asked(t, "weights", false, 10, w, queued, 0, 5)
	}
	asked(t, "no classes", false, 10, nil, nil, 0, 5)
	asked(t, "one class", true, 10, []int{1}, [][]int{nil}, 0, 5)
	asked(t, "all classes", true, 10, slices.Repeat([]int{1000}, api.MaxClasses), make([][]int, api.MaxClasses), api.MaxClasses-1, 5)
	asked(t, "one class more", false, 10, slices.Repeat([]int{1}, api.MaxClasses+1), make([][]int, api.MaxClasses+1), 0, 5)
	for _, q := range [][][]int{nil, {}, {{1}}, {{1}, {2}, nil}} {
		asked(t, "lists", false, 10, weights, q, 0, 5)
	}
	for _, c := range []int{math.MinInt, -1, 2, 3, math.MaxInt} {
		asked(t, "a class that there isn't", false, 10, weights, queued, c, 5)
	}
	asked(t, "the last class", true, 10, weights, queued, 1, 5)
}

// P8.2: sizes and capacities at the edges of what can be asked.
func TestPlanEdges(t *testing.T) {
	weights := []int{1, 4}
	for _, x := range []struct {
		size int
		want bool
	}{{math.MinInt, false}, {-1, false}, {0, true}, {1, true}, {1 << 20, true}, {1<<20 + 1, false}, {math.MaxInt, false}} {
		for class := range weights {
			asked(t, "the size", x.want, 1<<40, weights, [][]int{nil, nil}, class, x.size)
			queued := [][]int{{1, 1}, {1, 1}}
			queued[class][1] = x.size
			asked(t, "a size that is queued", x.want, 1<<30, weights, queued, 0, 1)
		}
	}
	for _, x := range []struct {
		capacity, size int
		want           bool
	}{
		{4, 5, false}, {5, 5, true}, {-1, 0, false}, {math.MinInt, 0, false}, {0, 0, true}, {0, 1, false}, {1<<20 - 1, 1 << 20, false},
		{1<<40 - 1, 5, true}, {1 << 40, 5, true}, {1<<40 + 1, 5, false}, {math.MaxInt, 5, false},
	} {
		asked(t, "the capacity", x.want, x.capacity, weights, [][]int{{7}, nil}, 1, x.size)
	}
}

// P8.2: as many spans as may be, and one more, in one list or in all; that which comes isn't one of them.
func TestPlanMany(t *testing.T) {
	const spans = 1 << 16
	full := slices.Repeat([]int{1 << 20}, spans)
	asked(t, "of one class", true, 1<<40, []int{1}, [][]int{full}, 0, 1<<20)
	asked(t, "one more", false, 1<<40, []int{1}, [][]int{append(full, 0)}, 0, 1)
	asked(t, "of two classes", true, 1<<40, []int{1, 1}, [][]int{full[1:], full[:1]}, 0, 1)
	asked(t, "one more of two", false, 1<<40, []int{1, 1}, [][]int{full, full[:1]}, 0, 1)
	victims, ok := share.Plan(1<<20, []int{1}, [][]int{full}, 0, 1<<20)
	if !ok || len(victims) != spans {
		t.Fatalf("%d go, %v", len(victims), ok)
	}
	for i, v := range victims {
		if v != (share.Victim{Place: i}) {
			t.Fatalf("Victim %d is %v", i, v)
		}
	}
}

// slowly is Plan a second way: each time it looks at all that are left.
func slowly(capacity int, weights []int, queued [][]int, class, size int) []share.Victim {
	left := make([][]int, len(queued))
	for c := range queued {
		left[c] = slices.Clone(queued[c])
	}
	left[class] = append(left[class], size)
	weight := share.Total([][]int{weights})
	places := make([]int, len(queued))
	var out []share.Victim
	for share.Total(left) > capacity {
		best, greatest := -1, 0
		for c, sizes := range left {
			excess := share.Total([][]int{sizes})*weight - capacity*weights[c]
			if len(sizes) > 0 && (best < 0 || excess > greatest) {
				best, greatest = c, excess
			}
		}
		out = append(out, share.Victim{Class: best, Place: places[best]})
		places[best]++
		left[best] = left[best][1:]
	}
	return out
}

// fair looks whether P8.3 holds of Victims.
func fair(t *testing.T, capacity int, weights []int, queued [][]int, class, size int, victims []share.Victim) {
	t.Helper()
	left := make([]int, len(queued))
	for c, sizes := range queued {
		left[c] = share.Total([][]int{sizes})
	}
	left[class] += size
	weight := int64(share.Total([][]int{weights}))
	for i, v := range victims {
		if share.Total([][]int{left}) <= capacity {
			t.Fatalf("without Victim %d there is room", i)
		}
		if share.Excess(capacity, weights, v.Class, left[v.Class]) <= 0 {
			t.Fatalf("Victim %d is of a class that has no more than its share", i)
		}
		gone := size
		if v.Place < len(queued[v.Class]) {
			gone = queued[v.Class][v.Place]
		} else if v.Class != class || v.Place > len(queued[v.Class]) {
			t.Fatalf("Victim %d isn't there: %v", i, v)
		}
		left[v.Class] -= gone
		if below := -share.Excess(capacity, weights, v.Class, left[v.Class]); below > 0 && below >= int64(gone)*weight {
			t.Fatalf("Victim %d's class is below its share by %d", i, below)
		}
	}
	if share.Total([][]int{left}) > capacity {
		t.Fatal("there are still more than the capacity")
	}
}

// P8.2, P8.3: Plans of all kinds.
func TestRandomPlans(t *testing.T) {
	source := rand.New(rand.NewSource(9))
	for range 20000 {
		classes, greatest := 1+source.Intn(api.MaxClasses), 1+source.Intn(20)
		weights, queued := make([]int, classes), make([][]int, classes)
		for c := range classes {
			weights[c] = 1 + source.Intn(1+source.Intn(1000))
			for range source.Intn(6) {
				queued[c] = append(queued[c], source.Intn(greatest))
			}
		}
		class, size := source.Intn(classes), source.Intn(greatest)
		capacity := size + source.Intn(share.Total(queued)+5)
		got, ok := share.Plan(capacity, weights, queued, class, size)
		if want := slowly(capacity, weights, queued, class, size); !ok || !slices.Equal(got, want) {
			t.Fatalf("Plan(%d, %v, %v, %d, %d) is %v, %v, want %v", capacity, weights, queued, class, size, got, ok, want)
		}
		fair(t, capacity, weights, queued, class, size, got)
	}
}

// Rule of memory: what is handed in stays as it was, its spare room too, and the answers share nothing.
func TestMemory(t *testing.T) {
	whole := []int{4, 4, 9, 8, 7}
	weights := []int{1, 1, 5, 5}
	queued := [][]int{whole[:2], whole[:0], {6}}
	plan := func() []share.Victim {
		got, ok := share.Plan(6, weights[:2], queued[:2], 0, 4)
		if !ok {
			t.Fatal("it can't be asked")
		}
		return got
	}
	one, two := plan(), plan()
	want := []share.Victim{{Class: 0, Place: 0}, {Class: 0, Place: 1}}
	for i := range one[:cap(one)] {
		one[:cap(one)][i] = share.Victim{Class: 77, Place: 77}
	}
	if !slices.Equal(two, want) || !slices.Equal(plan(), want) {
		t.Errorf("Plans are %v, %v", two, plan())
	}
	share.Excess(6, weights[:2], 0, 4)
	share.Right(weights[:2])
	share.Total(queued[:2])
	if !slices.Equal(whole, []int{4, 4, 9, 8, 7}) || !slices.Equal(weights, []int{1, 1, 5, 5}) || len(queued[0]) != 2 || len(queued[1]) != 0 || !slices.Equal(queued[2], []int{6}) {
		t.Errorf("what was handed in is %v, %v, %v", whole, weights, queued)
	}
}
