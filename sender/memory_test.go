package sender_test

import (
	"slices"
	"testing"

	"sumpter/frame"
	"sumpter/runs"
	"sumpter/sender"
)

// overwrite writes over a list, and over its spare room.
func overwrite[E any](l []E, with E) {
	l = l[:cap(l)]
	for i := range l {
		l[i] = with
	}
}

// roomy answers a list with spare room in which something stands, and the whole of it.
func roomy[E any](l []E, with E) (list, whole []E) {
	whole = append(slices.Clone(l), with, with, with)
	return whole[:len(l)], whole
}

// Rule of memory: what is queued stays as it was, its spare room too, and isn't kept.
func TestQueuedMemory(t *testing.T) {
	s := greeted(t, conf(2, 5), 5)
	for i, want := range [][]sender.Out{{batch(1, 2), batch(3)}, {batch(4)}, {batch(1, 2), batch(3), batch(4), batch(5)}} {
		queued, whole := roomy(refs(1, uint64(i)+3), sender.Ref{Number: 99, Size: 99})
		before := slices.Clone(whole)
		now := int64(i)
		if i == 2 {
			now = 3
		}
		sends(t, s, now, queued, want...)
		if !slices.Equal(whole, before) {
			t.Fatalf("what was queued is %v", whole)
		}
		overwrite(whole, sender.Ref{Number: 77, Size: 77})
	}
	sends(t, s, 4, refs(1, 5))
	state{open: true, incarnation: 1, limit: 5, flight: span(1, 5), next: 5}.held(t, "written over", s)
}

// Rule of memory: a frame's Runs stay as they were, their spare room too, and aren't kept.
func TestFrameMemory(t *testing.T) {
	for _, l := range [][]runs.Run{nil, {run(3, 3)}, {run(3, 3), run(5, 6)}, {run(5, 6), run(3, 4), run(9, 2)}} {
		s := greeted(t, conf(9, 9), 9)
		sends(t, s, 0, refs(1, 9), batch(1, 2, 3, 4, 5, 6, 7, 8, 9))
		given, whole := roomy(l, run(7, 7))
		before := slices.Clone(whole)
		want := span(0, 1)
		for _, r := range l {
			want = want.Span(r.From, r.To)
		}
		got, ok := s.Receive(0, ack(1, 1, 9, given...))
		if !ok || !runs.Same(got, want) || !slices.Equal(whole, before) {
			t.Fatalf("Receive is %v, %v, what was handed in is %v", got.Runs(), ok, whole)
		}
		overwrite(whole, run(0, most))
		left := span(1, 9).Less(want)
		if !runs.Same(got, want) || !runs.Same(s.Flight(), left) {
			t.Fatalf("written over: %v are acked, %v on their way", got.Runs(), s.Flight().Runs())
		}
	}
}

// Rule of memory: what is answered is the caller's own, list by list.
func TestAnswers(t *testing.T) {
	s := greeted(t, conf(2, 9), 9)
	first := s.Tick(0, refs(1, 5))
	for i := range first {
		overwrite(first[i].Numbers, 77)
		for j, want := range [][]uint64{{1, 2}, {3, 4}, {5}} {
			if j > i && !slices.Equal(first[j].Numbers, want) {
				t.Fatalf("two lists share memory: %v", first)
			}
		}
	}
	overwrite(first, sender.Out{Kind: 9})
	state{open: true, incarnation: 1, limit: 9, flight: span(1, 5), next: 2}.held(t, "written over", s)
	second := s.Tick(2, refs(1, 7))
	if !slices.EqualFunc(second, []sender.Out{batch(1, 2), batch(3, 4), batch(5), batch(6, 7)}, same) {
		t.Fatalf("Tick is %v", second)
	}
	for i := range second {
		overwrite(second[i].Numbers, 88)
	}
	sends(t, s, 4, refs(1, 7), batch(6, 7))
	sends(t, s, 6, refs(1, 7), batch(1, 2), batch(3, 4), batch(5))
}

// Values: sets that were answered stay as they were, whatever the sender does then.
func TestSets(t *testing.T) {
	s := greeted(t, conf(2, 9), 9)
	sends(t, s, 0, refs(1, 3), batch(1, 2), batch(3))
	flight := s.Flight()
	overwrite(flight.Runs(), run(9, 9))
	acked, _ := s.Receive(0, ack(1, 0, 9, run(2, 2)))
	overwrite(acked.Runs(), run(9, 9))
	s.Receive(0, ack(1, 3, 9))
	sends(t, s, 1, refs(4, 5), batch(4, 5))
	if !runs.Same(flight, span(1, 3)) || !runs.Same(acked, runs.Of(0, 2)) || !runs.Same(s.Flight(), span(4, 5)) {
		t.Errorf("%v, %v, %v", flight.Runs(), acked.Runs(), s.Flight().Runs())
	}
}

// Two senders of one conf know nothing of each other.
func TestTwoSenders(t *testing.T) {
	c := conf(2, 3)
	a, b := made(t, c), made(t, c)
	sends(t, a, 0, nil, hello())
	state{}.held(t, "the other", b)
	hears(t, a, welcome(1, 0, 9), runs.Of(0))
	state{}.held(t, "the other", b)
	sends(t, a, 0, refs(1, 3), batch(1, 2), batch(3))
	hears(t, b, welcome(2, 0, 2), runs.Of(0))
	sends(t, b, 0, refs(1, 3), batch(1, 2))
	hears(t, b, ack(2, 2, 2), span(0, 2))
	state{open: true, incarnation: 1, limit: 9, flight: span(1, 3), next: 2}.held(t, "the first", a)
	if _, ok := a.Receive(0, frame.Frame{}); ok {
		t.Error("a zero frame says something")
	}
}
