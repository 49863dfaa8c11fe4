package queue_test

import (
	"bytes"
	"math"
	"slices"
	"testing"

	"sumpter/api"
	"sumpter/queue"
	"sumpter/span"
)

const (
	// most is the greatest number, many is how many spans a queue may have.
	most = math.MaxUint64
	many = 1 << 16
)

// of answers a span of that class, and of that Size.
func of(class, size int) span.Span {
	return span.Span{Class: class, Body: bytes.Repeat([]byte{byte(size)}, size-span.Over)}
}

// opened answers a new queue.
func opened(t *testing.T, capacity int, weights ...int) *queue.Queue {
	t.Helper()
	q, e := queue.New(capacity, weights)
	if e != api.OK || q == nil {
		t.Fatalf("New(%d, %v) answers %v, error %d", capacity, weights, q, e)
	}
	return q
}

// puts looks whether Put answers that.
func puts(t *testing.T, q *queue.Queue, n uint64, s span.Span, want api.Errno) {
	t.Helper()
	if got := q.Put(n, s); got != want {
		t.Fatalf("Put(%d, class %d, Size %d) answers %d, want %d", n, s.Class, s.Size(), got, want)
	}
}

// drops looks whether Drop answers that span.
func drops(t *testing.T, q *queue.Queue, n uint64, want span.Span) {
	t.Helper()
	if got, e := q.Drop(n); e != api.OK || !span.Same(got, want) {
		t.Fatalf("Drop(%d) answers %v, %d", n, got, e)
	}
}

// zero tells whether s is a zero Span.
func zero(s span.Span) bool {
	return s.Class == 0 && len(s.Body) == 0
}

// holds looks whether a queue has just these items, whose numbers rise, by all that it tells of them.
func holds(t *testing.T, what string, q *queue.Queue, want ...span.Item) {
	t.Helper()
	var numbers []uint64
	var classes [api.MaxClasses]int
	all := 0
	for _, i := range want {
		numbers = append(numbers, i.Number)
		classes[i.Class] += i.Size()
		all += i.Size()
		if got, ok := q.Get(i.Number); !ok || !span.Same(got, i.Span) {
			t.Fatalf("%s: Get(%d) is %v, %v", what, i.Number, got, ok)
		}
	}
	if got := q.Numbers(); !slices.Equal(got, numbers) {
		t.Fatalf("%s: Numbers are %v, want %v", what, got, numbers)
	}
	if q.Len() != len(want) || q.Bytes() != all {
		t.Fatalf("%s: Len %d, Bytes %d, want %d, %d", what, q.Len(), q.Bytes(), len(want), all)
	}
	for c, size := range classes {
		if got := q.Class(c); got != size {
			t.Fatalf("%s: Class(%d) is %d, want %d", what, c, got, size)
		}
	}
	for _, c := range []int{math.MinInt, -1, api.MaxClasses, api.MaxClasses + 1, math.MaxInt} {
		if got := q.Class(c); got != 0 {
			t.Fatalf("%s: Class(%d) is %d", what, c, got)
		}
	}
	lowest, ok := q.Lowest()
	if ok != (len(want) > 0) || ok && lowest != numbers[0] || !ok && lowest != 0 {
		t.Fatalf("%s: Lowest is %d, %v", what, lowest, ok)
	}
}

// lacks looks whether nobody has these numbers.
func lacks(t *testing.T, q *queue.Queue, numbers ...uint64) {
	t.Helper()
	for _, n := range numbers {
		if got, ok := q.Get(n); ok || !zero(got) {
			t.Fatalf("Get(%d), which isn't there, is %v, %v", n, got, ok)
		}
		if got, e := q.Drop(n); e != api.ErrNone || !zero(got) {
			t.Fatalf("Drop(%d), which isn't there, is %v, %d", n, got, e)
		}
	}
}

// item answers an item of that span.
func item(n uint64, s span.Span) span.Item {
	return span.Item{Number: n, Span: s}
}

// P9.1: capacities from 1 to 2^40, and weights that are Right; the queue is empty.
func TestNew(t *testing.T) {
	for _, capacity := range []int{1, 15, 16, 4112, 1<<40 - 1, 1 << 40} {
		for _, weights := range [][]int{{1}, {1000}, {1, 1000}, slices.Repeat([]int{7}, api.MaxClasses)} {
			q := opened(t, capacity, weights...)
			holds(t, "a new queue", q)
			lacks(t, q, 0, 1, most)
		}
	}
	for _, capacity := range []int{math.MinInt, -1, 0, 1<<40 + 1, math.MaxInt} {
		if q, e := queue.New(capacity, []int{1, 1}); e != api.ErrArg || q != nil {
			t.Errorf("New(%d) answers %v, %d", capacity, q, e)
		}
	}
	for _, weights := range [][]int{nil, {}, {0}, {-1}, {1001}, {1, 0}, {1, 1001, 1}, {math.MinInt}, {math.MaxInt}, slices.Repeat([]int{1}, api.MaxClasses+1)} {
		for _, capacity := range []int{1, 100, 1 << 40, 0, 1<<40 + 1} {
			if q, e := queue.New(capacity, weights); e != api.ErrArg || q != nil {
				t.Errorf("New(%d, %v) answers %v, %d", capacity, weights, q, e)
			}
		}
	}
}

// wrong are spans that a queue of two classes doesn't take.
func wrong() []span.Span {
	return []span.Span{
		of(2, 16), of(7, 20), of(api.MaxClasses-1, 16), of(api.MaxClasses, 16), of(-1, 16), of(256, 16), of(math.MaxInt, 16), of(math.MinInt, 16),
		of(0, api.MaxBody+span.Over+1), of(1, api.MaxBody+span.Over+1), of(2, api.MaxBody+span.Over+1), of(-1, api.MaxBody+span.Over+1),
	}
}

// P9.1: a span that is Right, of a class of the weights, is taken, whether there is room or not.
func TestTakes(t *testing.T) {
	for classes := 1; classes <= api.MaxClasses; classes++ {
		q := opened(t, 20, slices.Repeat([]int{5}, classes)...)
		for class := -1; class <= api.MaxClasses; class++ {
			for _, size := range []int{16, 17, 20, 21, api.MaxBody + span.Over, api.MaxBody + span.Over + 1} {
				want := class >= 0 && class < classes && size <= api.MaxBody+span.Over
				if got := q.Takes(of(class, size)); got != want {
					t.Errorf("%d classes: Takes of class %d, Size %d is %v", classes, class, size, got)
				}
			}
		}
	}
	q := opened(t, 100, 1, 1)
	if !q.Takes(span.Span{}) {
		t.Error("a zero Span isn't taken")
	}
	for _, s := range wrong() {
		if q.Takes(s) {
			t.Errorf("Takes of class %d, Size %d", s.Class, s.Size())
		}
		puts(t, q, 1, s, api.ErrArg)
		if l, itself, e := q.Victims(s); e != api.ErrArg || l != nil || itself {
			t.Errorf("Victims of class %d, Size %d: %v, %v, %d", s.Class, s.Size(), l, itself, e)
		}
	}
	holds(t, "what isn't taken", q)
	puts(t, q, 1, of(1, 16), api.OK)
}

// P9.1, P9.2: what is told behind each Put and each Drop.
func TestPutDrop(t *testing.T) {
	q := opened(t, 1000, 1, 2, 3)
	a, b, c, d := item(3, of(1, 30)), item(4, of(0, 16)), item(90, of(1, 45)), item(most, of(2, 100))
	puts(t, q, 3, a.Span, api.OK)
	holds(t, "a", q, a)
	puts(t, q, 4, b.Span, api.OK)
	holds(t, "a b", q, a, b)
	puts(t, q, 90, c.Span, api.OK)
	holds(t, "a b c", q, a, b, c)
	puts(t, q, most, d.Span, api.OK)
	holds(t, "a b c d", q, a, b, c, d)
	lacks(t, q, 0, 1, 2, 5, 89, 91, most-1)
	drops(t, q, 4, b.Span)
	holds(t, "a c d", q, a, c, d)
	lacks(t, q, 4)
	drops(t, q, most, d.Span)
	holds(t, "a c", q, a, c)
	drops(t, q, 3, a.Span)
	holds(t, "c", q, c)
	drops(t, q, 90, c.Span)
	holds(t, "nothing", q)
	lacks(t, q, 0, 3, 4, 90, most)
}

// P9.1, P9.2: whichever of one class is dropped, the others stay in their order.
func TestDropOrder(t *testing.T) {
	for first := range 5 {
		for second := range 4 {
			q := opened(t, 1000, 1)
			var left []span.Item
			for i := range 5 {
				left = append(left, item(uint64(10*i+7), of(0, 16+i)))
				puts(t, q, left[i].Number, left[i].Span, api.OK)
			}
			for _, i := range []int{first, second} {
				drops(t, q, left[i].Number, left[i].Span)
				left = slices.Delete(left, i, i+1)
				holds(t, "dropped", q, left...)
			}
			left = append(left, item(50, of(0, 31)))
			puts(t, q, 50, of(0, 31), api.OK)
			holds(t, "one behind", q, left...)
		}
	}
}

// P9.1: a number isn't above all that were Put: it comes again, falls, is 0, or was dropped.
func TestPutOld(t *testing.T) {
	q := opened(t, 1000, 1, 1)
	puts(t, q, 0, of(0, 16), api.ErrOld)
	puts(t, q, 5, of(0, 16), api.OK)
	for _, n := range []uint64{0, 1, 4, 5} {
		puts(t, q, n, of(0, 16), api.ErrOld)
		puts(t, q, n, of(1, 20), api.ErrOld)
	}
	holds(t, "old ones", q, item(5, of(0, 16)))
	puts(t, q, 6, of(1, 17), api.OK)
	drops(t, q, 6, of(1, 17))
	drops(t, q, 5, of(0, 16))
	for _, n := range []uint64{0, 1, 5, 6} {
		puts(t, q, n, of(0, 16), api.ErrOld)
	}
	holds(t, "dropped ones", q)
	puts(t, q, 7, of(0, 16), api.OK)
	puts(t, q, most, of(0, 16), api.OK)
	puts(t, q, most, of(0, 16), api.ErrOld)
	drops(t, q, most, of(0, 16))
	for _, n := range []uint64{0, 7, 8, most - 1, most} {
		puts(t, q, n, of(0, 16), api.ErrOld)
	}
	holds(t, "the greatest", q, item(7, of(0, 16)))
}

// P9.1: numbers whose Put had an error weren't Put.
func TestPutAgain(t *testing.T) {
	q := opened(t, 40, 1)
	puts(t, q, 1, of(0, 20), api.OK)
	puts(t, q, most, of(0, 21), api.ErrFull)
	puts(t, q, most, of(1, 20), api.ErrArg)
	puts(t, q, 1, of(0, 20), api.ErrOld)
	holds(t, "errors", q, item(1, of(0, 20)))
	puts(t, q, 2, of(0, 20), api.OK)
	holds(t, "behind errors", q, item(1, of(0, 20)), item(2, of(0, 20)))
}

// P9.1: spans that need just the room that is left, and one byte more.
func TestPutRoom(t *testing.T) {
	for _, capacity := range []int{1, 15} {
		q := opened(t, capacity, 1)
		puts(t, q, 1, of(0, 16), api.ErrFull)
		holds(t, "no room for any", q)
	}
	q := opened(t, 16, 1)
	puts(t, q, 1, of(0, 17), api.ErrFull)
	puts(t, q, 1, of(0, 16), api.OK)
	puts(t, q, 2, of(0, 16), api.ErrFull)
	holds(t, "room for one", q, item(1, of(0, 16)))

	q = opened(t, 100, 1, 1000)
	puts(t, q, 1, of(0, 101), api.ErrFull)
	puts(t, q, 1, of(0, 60), api.OK)
	puts(t, q, 2, of(1, 41), api.ErrFull)
	puts(t, q, 2, of(0, 41), api.ErrFull)
	puts(t, q, 2, of(1, 40), api.OK)
	holds(t, "just full", q, item(1, of(0, 60)), item(2, of(1, 40)))
	puts(t, q, 3, of(1, 16), api.ErrFull)
	drops(t, q, 1, of(0, 60))
	puts(t, q, 3, of(1, 61), api.ErrFull)
	puts(t, q, 3, of(1, 60), api.OK)
	holds(t, "full again", q, item(2, of(1, 40)), item(3, of(1, 60)))
}

// P9.1: of several errors that which is named first: ErrArg, then ErrOld, then ErrFull.
func TestPutErrors(t *testing.T) {
	q := opened(t, 40, 1, 1)
	puts(t, q, 5, of(0, 40), api.OK)
	for _, s := range wrong() {
		for _, n := range []uint64{0, 5, 6} {
			puts(t, q, n, s, api.ErrArg)
		}
	}
	for _, n := range []uint64{0, 4, 5} {
		puts(t, q, n, of(1, 16), api.ErrOld)
		puts(t, q, n, of(0, 4112), api.ErrOld)
	}
	puts(t, q, 6, of(0, 16), api.ErrFull)
	holds(t, "errors", q, item(5, of(0, 40)))
}

// crowd answers a queue with as many spans as may be there, of class 0 and Size 16, and the numbers 1, 2, ..
func crowd(t *testing.T, capacity int, weights ...int) *queue.Queue {
	t.Helper()
	q := opened(t, capacity, weights...)
	for n := range uint64(many) {
		puts(t, q, n+1, of(0, 16), api.OK)
	}
	if q.Len() != many || q.Bytes() != 16*many {
		t.Fatalf("Len %d, Bytes %d", q.Len(), q.Bytes())
	}
	return q
}

// P9.1: 2^16 spans, and one more, though there is room.
func TestPutMany(t *testing.T) {
	q := crowd(t, 1<<40, 1, 1)
	puts(t, q, many+1, of(0, 16), api.ErrFull)
	puts(t, q, many+1, of(1, 16), api.ErrFull)
	puts(t, q, many+1, of(2, 16), api.ErrArg)
	puts(t, q, many, of(0, 16), api.ErrOld)
	drops(t, q, 2, of(0, 16))
	puts(t, q, many+1, of(1, 17), api.OK)
	puts(t, q, many+2, of(1, 17), api.ErrFull)
	if q.Len() != many || q.Class(0) != 16*(many-1) || q.Class(1) != 17 {
		t.Errorf("Len %d, classes %d, %d", q.Len(), q.Class(0), q.Class(1))
	}
	numbers := q.Numbers()
	if len(numbers) != many || !slices.IsSorted(numbers) || numbers[0] != 1 || numbers[1] != 3 || numbers[many-1] != many+1 {
		t.Errorf("%d Numbers", len(numbers))
	}
	for n := range uint64(many + 1) {
		if _, e := q.Drop(n + 1); (e == api.OK) == (n+1 == 2) {
			t.Fatalf("Drop(%d) answers %d", n+1, e)
		}
	}
	holds(t, "all dropped", q)
}

// P9.2: the least number is told whichever class has it.
func TestLowest(t *testing.T) {
	q := opened(t, 1000, 1, 1, 1)
	for i, class := range []int{2, 0, 1, 0, 2, 1} {
		puts(t, q, uint64(i+1), of(class, 16+i), api.OK)
	}
	for i, class := range []int{2, 0, 1, 0, 2, 1} {
		if n, ok := q.Lowest(); !ok || n != uint64(i+1) {
			t.Fatalf("Lowest is %d, %v, want %d", n, ok, i+1)
		}
		drops(t, q, uint64(i+1), of(class, 16+i))
	}
	if n, ok := q.Lowest(); ok || n != 0 {
		t.Errorf("Lowest of none is %d, %v", n, ok)
	}
}

// P9.2: of a nil queue ErrNone, false, 0, nothing, whatever else applies.
func TestNil(t *testing.T) {
	var q *queue.Queue
	for _, s := range append(wrong(), span.Span{}, of(1, 20)) {
		for _, n := range []uint64{0, 1, most} {
			puts(t, q, n, s, api.ErrNone)
		}
		if l, itself, e := q.Victims(s); l != nil || itself || e != api.ErrNone {
			t.Errorf("Victims: %v, %v, %d", l, itself, e)
		}
		if q.Takes(s) {
			t.Error("a nil queue takes a span")
		}
	}
	holds(t, "a nil queue", q)
	lacks(t, q, 0, 1, most)
}
