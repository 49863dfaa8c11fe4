package queue_test

import (
	"math/rand"
	"slices"
	"testing"

	"sumpter/api"
	"sumpter/queue"
	"sumpter/span"
)

// goes looks whether just these are Victims, and s itself.
func goes(t *testing.T, what string, q *queue.Queue, s span.Span, itself bool, want ...uint64) {
	t.Helper()
	got, also, e := q.Victims(s)
	if e != api.OK || also != itself || !slices.Equal(got, want) {
		t.Fatalf("%s: Victims are %v, %v, error %d, want %v, %v", what, got, also, e, want, itself)
	}
}

// refuses looks whether Victims answers that error.
func refuses(t *testing.T, what string, q *queue.Queue, s span.Span, want api.Errno) {
	t.Helper()
	if got, itself, e := q.Victims(s); e != want || got != nil || itself {
		t.Fatalf("%s: Victims are %v, %v, error %d, want error %d", what, got, itself, e, want)
	}
}

// waiting answers a queue in which spans of these classes and Sizes have the numbers 10, 20, ..
func waiting(t *testing.T, capacity int, weights []int, l ...[2]int) *queue.Queue {
	t.Helper()
	q := opened(t, capacity, weights...)
	for i, x := range l {
		puts(t, q, uint64(10*i+10), of(x[0], x[1]), api.OK)
	}
	return q
}

// P9.2: the chapter's example.
func TestExample(t *testing.T) {
	q := opened(t, 40, 1, 1)
	puts(t, q, 1, span.Span{Body: []byte("ab")}, api.OK)
	puts(t, q, 2, span.Span{Body: []byte("cd")}, api.OK)
	goes(t, "the chapter's", q, span.Span{Class: 1, Body: []byte("abcd")}, false, 1)
	holds(t, "asking takes nobody away", q, item(1, span.Span{Body: []byte("ab")}), item(2, span.Span{Body: []byte("cd")}))
}

// P9.2: none goes that needn't.
func TestVictimsNone(t *testing.T) {
	goes(t, "nobody is there", opened(t, 100, 1, 1), of(1, 100), false)
	q := waiting(t, 100, []int{1, 1}, [2]int{0, 60})
	goes(t, "much room", q, of(0, 16), false)
	goes(t, "just the room", q, of(0, 40), false)
	goes(t, "just the room for the other", q, of(1, 40), false)
	goes(t, "one byte more", q, of(1, 41), false, 10)
	goes(t, "one byte more of its class", q, of(0, 41), false, 10)
}

// P9.2: of the class with the greatest excess the oldest go, as many as must, in the Plan's order.
func TestVictimsSeveral(t *testing.T) {
	q := waiting(t, 100, []int{1, 1}, [2]int{0, 20}, [2]int{1, 30}, [2]int{0, 20}, [2]int{0, 20})
	goes(t, "one", q, of(1, 20), false, 10)
	goes(t, "one of the other", q, of(1, 40), false, 20)
	goes(t, "one of each", q, of(1, 55), false, 20, 10)
	q = waiting(t, 100, []int{1, 3}, [2]int{0, 20}, [2]int{1, 30}, [2]int{0, 20}, [2]int{0, 20})
	goes(t, "in turns", q, of(1, 75), false, 10, 20, 30)
	drops(t, q, 10, of(0, 20))
	goes(t, "in turns, the oldest is gone", q, of(1, 75), false, 20, 30)
	q = waiting(t, 60, []int{1}, [2]int{0, 20}, [2]int{0, 20}, [2]int{0, 20})
	goes(t, "all", q, of(0, 60), false, 10, 20, 30)
	goes(t, "but one", q, of(0, 40), false, 10, 20)
	goes(t, "the oldest", q, of(0, 16), false, 10)
}

// P9.2: who goes is told by weights.
func TestVictimsWeights(t *testing.T) {
	l := [][2]int{{0, 50}, {1, 50}}
	goes(t, "the first weighs more", waiting(t, 100, []int{9, 1}, l...), of(0, 16), false, 20)
	goes(t, "the second weighs more", waiting(t, 100, []int{1, 9}, l...), of(1, 16), false, 10)
}

// P9.2: of equal excesses it is the class of the least number, whoever is older.
func TestVictimsEqual(t *testing.T) {
	q := waiting(t, 119, []int{3, 3, 3}, [2]int{2, 40}, [2]int{1, 40}, [2]int{0, 20})
	goes(t, "three alike", q, of(0, 20), false, 30)
	goes(t, "two alike, the third above them", q, of(0, 24), false, 30)
	q = waiting(t, 120, []int{3, 3, 3}, [2]int{2, 50}, [2]int{1, 50})
	goes(t, "two alike", q, of(0, 21), false, 20)
	q = waiting(t, 64, []int{3, 3, 3}, [2]int{2, 16}, [2]int{2, 16}, [2]int{1, 16}, [2]int{1, 16})
	goes(t, "two alike, one of each goes", q, of(0, 31), false, 30, 10)
	q = waiting(t, 90, []int{1, 2}, [2]int{1, 66}, [2]int{0, 20})
	goes(t, "alike by their weights", q, of(0, 16), false, 20)
}

// P9.2: the one that comes is the newest of its class, and may have to go itself.
func TestVictimsItself(t *testing.T) {
	q := waiting(t, 100, []int{1, 4}, [2]int{1, 40}, [2]int{1, 40})
	goes(t, "alone of its class", q, of(0, 50), true)
	q = waiting(t, 100, []int{1, 4}, [2]int{0, 16}, [2]int{1, 60}, [2]int{0, 16})
	goes(t, "behind those of its class", q, of(0, 60), true, 10, 30)
	q = waiting(t, 100, []int{1, 4}, [2]int{0, 50}, [2]int{0, 40})
	goes(t, "others of its class suffice", q, of(0, 50), false, 10)
	q = waiting(t, 100, []int{4, 1}, [2]int{0, 70}, [2]int{1, 16})
	goes(t, "of the last class", q, of(1, 30), false, 20)
	goes(t, "of the last class itself", q, of(1, 60), true, 20)
}

// P9.2: a Size at the capacity, and one above it.
func TestVictimsLong(t *testing.T) {
	refuses(t, "capacity 1", opened(t, 1, 1), of(0, 16), api.ErrLong)
	refuses(t, "capacity 15", opened(t, 15, 1), of(0, 16), api.ErrLong)
	goes(t, "capacity 16", opened(t, 16, 1), of(0, 16), false)
	q := waiting(t, 100, []int{1, 1}, [2]int{0, 30}, [2]int{1, 40})
	goes(t, "at the capacity", q, of(0, 100), true, 10)
	refuses(t, "above the capacity", q, of(0, 101), api.ErrLong)
	refuses(t, "above the capacity of the other", q, of(1, 101), api.ErrLong)
	refuses(t, "not taken, and above the capacity", q, of(2, 101), api.ErrArg)
	refuses(t, "not Right, and above the capacity", q, of(0, 4113), api.ErrArg)
	refuses(t, "the greatest, above the capacity", q, of(0, 4112), api.ErrLong)
	holds(t, "errors", q, item(10, of(0, 30)), item(20, of(1, 40)))
}

// P9.2: 2^16 spans are there: it is full, unless one of them is a Victim.
func TestVictimsMany(t *testing.T) {
	q := crowd(t, 1<<40, 1, 1)
	refuses(t, "there is room", q, of(0, 16), api.ErrFull)
	refuses(t, "there is room for the other", q, of(1, 4112), api.ErrFull)
	refuses(t, "not taken", q, of(2, 16), api.ErrArg)
	drops(t, q, 7, of(0, 16))
	goes(t, "one less", q, of(0, 16), false)

	q = crowd(t, 16*many+20, 1, 1)
	refuses(t, "just the room", q, of(0, 20), api.ErrFull)
	goes(t, "one byte more", q, of(0, 21), false, 1)
	goes(t, "the other", q, of(1, 37), false, 1, 2)
	drops(t, q, 1, of(0, 16))
	goes(t, "one less", q, of(0, 36), false)
	goes(t, "one less, one byte more", q, of(0, 37), false, 2)

	// One that comes and goes itself leaves all of them there.
	q = crowd(t, 16*many+20, 1000, 1)
	refuses(t, "itself alone", q, of(1, 4112), api.ErrFull)
	drops(t, q, 9, of(0, 16))
	goes(t, "itself alone, one less", q, of(1, 4112), true)
}

// P9.2: so many go that none of the queued is left.
func TestVictimsAll(t *testing.T) {
	q := opened(t, 4112, 1)
	var want []uint64
	for n := range uint64(257) {
		puts(t, q, n+1, of(0, 16), api.OK)
		want = append(want, n+1)
	}
	goes(t, "all", q, of(0, 4112), false, want...)
	goes(t, "one", q, of(0, 16), false, 1)
}

// plain is a queue done plainly: a list that is gone through each time.
type plain struct {
	capacity int
	weights  []int
	last     uint64
	items    []span.Item
}

// bytes answers the Sizes of a class, or, of class -1, all.
func (p *plain) bytes(class int) int {
	all := 0
	for _, i := range p.items {
		if class < 0 || i.Class == class {
			all += i.Size()
		}
	}
	return all
}

// takes tells whether s is taken.
func (p *plain) takes(s span.Span) bool {
	return s.Class >= 0 && s.Class < len(p.weights) && len(s.Body) <= 4096
}

// put is Put.
func (p *plain) put(n uint64, s span.Span) api.Errno {
	switch {
	case !p.takes(s):
		return api.ErrArg
	case n <= p.last:
		return api.ErrOld
	case p.bytes(-1)+s.Size() > p.capacity:
		return api.ErrFull
	}
	p.last = n
	p.items = append(p.items, item(n, s))
	return api.OK
}

// drop is Drop.
func (p *plain) drop(n uint64) (span.Span, api.Errno) {
	for i, x := range p.items {
		if x.Number == n {
			p.items = slices.Delete(p.items, i, i+1)
			return x.Span, api.OK
		}
	}
	return span.Span{}, api.ErrNone
}

// worst answers the class with the greatest excess that has one left.
func (p *plain) worst() int {
	weight := 0
	for _, w := range p.weights {
		weight += w
	}
	worst, greatest := -1, 0
	for c, w := range p.weights {
		bytes := p.bytes(c)
		if excess := bytes*weight - p.capacity*w; bytes > 0 && (worst < 0 || excess > greatest) {
			worst, greatest = c, excess
		}
	}
	return worst
}

// victims is Victims.
func (p *plain) victims(s span.Span) ([]uint64, bool, api.Errno) {
	if !p.takes(s) {
		return nil, false, api.ErrArg
	}
	if s.Size() > p.capacity {
		return nil, false, api.ErrLong
	}
	// It has a number of its own here, which no other has.
	const own = most
	left := &plain{capacity: p.capacity, weights: p.weights, items: append(slices.Clone(p.items), item(own, s))}
	var out []uint64
	itself := false
	for left.bytes(-1) > left.capacity {
		class := left.worst()
		oldest := slices.IndexFunc(left.items, func(i span.Item) bool { return i.Class == class })
		if n := left.items[oldest].Number; n == own {
			itself = true
		} else {
			out = append(out, n)
		}
		left.items = slices.Delete(left.items, oldest, oldest+1)
	}
	return out, itself, api.OK
}

// step does one call of both, and looks whether they answer the same.
func step(t *testing.T, source *rand.Rand, q *queue.Queue, p *plain) {
	t.Helper()
	s := of(source.Intn(len(p.weights)+2)-1, 16+source.Intn(30))
	n := max(p.last, 1) + uint64(source.Intn(4)) - 1
	switch source.Intn(8) {
	case 0, 1, 2:
		if got, want := q.Put(n, s), p.put(n, s); got != want {
			t.Fatalf("Put(%d, class %d, Size %d) is %d, want %d", n, s.Class, s.Size(), got, want)
		}
	case 3, 4:
		n -= uint64(source.Intn(12))
		got, e := q.Drop(n)
		if want, f := p.drop(n); e != f || !span.Same(got, want) {
			t.Fatalf("Drop(%d) is %v, %d, want %v, %d", n, got, e, want, f)
		}
	case 5:
		// As a spill does it.
		victims, itself, e := q.Victims(s)
		for _, v := range victims {
			q.Drop(v)
			p.drop(v)
		}
		if n = p.last + 1; e == api.OK && !itself {
			puts(t, q, n, s, api.OK)
			p.put(n, s)
		}
	default:
		got, itself, e := q.Victims(s)
		want, also, f := p.victims(s)
		if e != f || itself != also || !slices.Equal(got, want) {
			t.Fatalf("Victims of class %d, Size %d of %v (capacity %d, weights %v): %v, %v, %d, want %v, %v, %d",
				s.Class, s.Size(), p.items, p.capacity, p.weights, got, itself, e, want, also, f)
		}
	}
}

// P9.1, P9.2: all calls in any order.
func TestRandomCalls(t *testing.T) {
	source := rand.New(rand.NewSource(9))
	for range 400 {
		weights := make([]int, 1+source.Intn(api.MaxClasses))
		for c := range weights {
			weights[c] = 1 + source.Intn(1+source.Intn(1000))
		}
		p := &plain{capacity: 10 + source.Intn(400), weights: weights}
		q := opened(t, p.capacity, weights...)
		for range 150 {
			step(t, source, q, p)
			holds(t, "any calls", q, p.items...)
		}
	}
}
