package queue_test

import (
	"bytes"
	"slices"
	"testing"

	"sumpter/api"
	"sumpter/queue"
	"sumpter/span"
)

// overwrite writes over a list, and over its spare room.
func overwrite[E any](l []E, with E) {
	l = l[:cap(l)]
	for i := range l {
		l[i] = with
	}
}

// roomy answers a body with spare room behind it, and the whole of it.
func roomy(p string) (body, whole []byte) {
	whole = append([]byte(p), bytes.Repeat([]byte{0xee}, 32)...)
	return whole[:len(p)], whole
}

// Rule of memory: weights stay as they were, their spare room too, and aren't kept.
func TestWeightsMemory(t *testing.T) {
	whole := []int{9, 1, 5, 5}
	q, e := queue.New(100, whole[:2])
	if e != api.OK || !slices.Equal(whole, []int{9, 1, 5, 5}) {
		t.Fatalf("weights are %v, error %d", whole, e)
	}
	puts(t, q, 1, of(0, 50), api.OK)
	puts(t, q, 2, of(1, 50), api.OK)
	goes(t, "ahead", q, of(0, 20), false, 2)
	if !slices.Equal(whole, []int{9, 1, 5, 5}) {
		t.Fatalf("weights are %v", whole)
	}
	copy(whole, []int{1, 9, 0, 0})
	goes(t, "written over", q, of(0, 20), false, 2)
	if q.Takes(of(2, 16)) {
		t.Error("a class that there isn't is taken")
	}
}

// Rule of memory: a span that is handed in stays as it was, its spare room too, and isn't kept.
func TestSpanMemory(t *testing.T) {
	q := opened(t, 60, 1, 1)
	for n, text := range []string{"body", "", "x"} {
		body, whole := roomy(text)
		before := bytes.Clone(whole)
		s := span.Span{Class: 1, Body: body}
		puts(t, q, uint64(n+1), s, api.OK)
		puts(t, q, uint64(n+1), s, api.ErrOld)
		q.Takes(s)
		q.Victims(s)
		if !bytes.Equal(whole, before) {
			t.Fatalf("what was handed in is %x", whole)
		}
		overwrite(whole, 0x55)
		if got, ok := q.Get(uint64(n + 1)); !ok || got.Class != 1 || string(got.Body) != text {
			t.Fatalf("Get is %v, %v, want %q", got, ok, text)
		}
	}
}

// Rule of memory: what Get and Drop answer is the caller's own.
func TestAnsweredSpans(t *testing.T) {
	q := opened(t, 100, 1, 1)
	want := span.Span{Class: 1, Body: []byte("words")}
	puts(t, q, 1, want, api.OK)
	puts(t, q, 2, want, api.OK)
	one, _ := q.Get(1)
	two, _ := q.Get(1)
	overwrite(one.Body, 0x55)
	if !span.Same(two, want) {
		t.Errorf("two answers share memory: %q", two.Body)
	}
	holds(t, "written over", q, item(1, want), item(2, want))
	dropped, e := q.Drop(1)
	if e != api.OK || !span.Same(dropped, want) {
		t.Fatalf("Drop is %v, %d", dropped, e)
	}
	overwrite(two.Body, 0x66)
	if !span.Same(dropped, want) {
		t.Errorf("what was dropped shares memory: %q", dropped.Body)
	}
	overwrite(dropped.Body, 0x77)
	holds(t, "dropped and written over", q, item(2, want))
}

// Rule of memory: lists that are answered are the caller's own.
func TestAnsweredLists(t *testing.T) {
	q := opened(t, 60, 1)
	want := []span.Item{item(1, of(0, 20)), item(2, of(0, 20)), item(3, of(0, 20))}
	for _, i := range want {
		puts(t, q, i.Number, i.Span, api.OK)
	}
	one, two := q.Numbers(), q.Numbers()
	overwrite(one, 77)
	if !slices.Equal(two, []uint64{1, 2, 3}) {
		t.Errorf("two answers share memory: %v", two)
	}
	three, _, _ := q.Victims(of(0, 40))
	four, _, _ := q.Victims(of(0, 40))
	overwrite(three, 88)
	if !slices.Equal(four, []uint64{1, 2}) || !slices.Equal(two, []uint64{1, 2, 3}) {
		t.Errorf("two answers share memory: %v, %v", two, four)
	}
	holds(t, "written over", q, want...)
	goes(t, "written over", q, of(0, 40), false, 1, 2)
	drops(t, q, 1, of(0, 20))
	puts(t, q, 4, of(0, 16), api.OK)
	if !slices.Equal(two, []uint64{1, 2, 3}) || !slices.Equal(four, []uint64{1, 2}) {
		t.Errorf("an answer changed: %v, %v", two, four)
	}
}

// Two queues, made of the same weights, know nothing of each other.
func TestTwoQueues(t *testing.T) {
	weights := []int{1, 1}
	a, _ := queue.New(100, weights)
	b, _ := queue.New(100, weights)
	puts(t, a, 5, of(0, 20), api.OK)
	holds(t, "the other", b)
	puts(t, b, 1, of(1, 100), api.OK)
	holds(t, "the one", a, item(5, of(0, 20)))
	drops(t, a, 5, of(0, 20))
	holds(t, "the other", b, item(1, of(1, 100)))
}
