package spill_test

import (
	"bytes"
	"math"
	"slices"
	"testing"

	"sumpter/api"
	"sumpter/disk"
	"sumpter/runs"
	"sumpter/span"
	"sumpter/spill"
)

// overwrite writes over a list, and over its spare room.
func overwrite[E any](l []E, with E) {
	l = l[:cap(l)]
	for i := range l {
		l[i] = with
	}
}

// spare answers a body with spare room behind it, and the whole of it.
func spare(p string) (body, whole []byte) {
	whole = append([]byte(p), bytes.Repeat([]byte{0xee}, 32)...)
	return whole[:len(p)], whole
}

// Rule of memory: weights stay as they were, their spare room too, and aren't kept.
func TestWeightsMemory(t *testing.T) {
	whole := []int{1, 4, 5, 5}
	d := disk.New(1000)
	s := opened(t, d, conf(100, whole[:2]...))
	if !slices.Equal(whole, []int{1, 4, 5, 5}) {
		t.Fatalf("weights are %v", whole)
	}
	offers(t, s, of(0, 60), 1, true)
	copy(whole, []int{9, 9, 9, 9})
	refuses(t, s, of(2, 16), api.ErrArg)
	overwrite(whole, 0)
	offers(t, s, of(1, 60), 2, true, 1)
	offers(t, s, of(0, 60), 3, false)
	if !slices.Equal(whole, []int{0, 0, 0, 0}) {
		t.Fatalf("weights are %v", whole)
	}
}

// Rule of memory: a span that is handed in stays as it was, its spare room too, and isn't kept.
func TestSpanMemory(t *testing.T) {
	c := conf(60, 1, 4)
	s := opened(t, disk.New(1000), c)
	want := state{epoch: 1, next: 1}
	for _, text := range []string{"body", "", "x"} {
		body, whole := spare(text)
		before := bytes.Clone(whole)
		x := span.Span{Class: 1, Body: body}
		number := want.next
		offers(t, s, x, number, true)
		refuses(t, s, span.Span{Class: 2, Body: body}, api.ErrArg)
		if !bytes.Equal(whole, before) {
			t.Fatalf("what was handed in is %x", whole)
		}
		overwrite(whole, 0x55)
		want.next++
		want.queued = append(want.queued, item(number, span.Span{Class: 1, Body: []byte(text)}))
		holds(t, "written over", s, want)
		again(t, "written over", s, c, want)
	}
	body, whole := spare("begun")
	before := bytes.Clone(whole)
	if e := s.Begin(span.Span{Class: 1, Body: body}); e != api.OK || !bytes.Equal(whole, before) {
		t.Fatalf("Begin is error %d, what was handed in is %x", e, whole)
	}
	overwrite(whole, 0x55)
	last(t, "begun", s, 5, put(span.Span{Class: 1, Body: []byte("begun")}, 4, 0, 1, 1))
}

// Rule of memory: spans that are answered are the caller's own.
func TestAnsweredSpans(t *testing.T) {
	want := span.Span{Class: 1, Body: []byte("words")}
	d := disk.New(1000)
	offers(t, opened(t, d, conf(100, 1, 1)), want, 1, true)
	s := opened(t, d, conf(100, 1, 1))
	one, _ := s.Get(1)
	two, _ := s.Get(1)
	overwrite(one.Body, 0x55)
	if !span.Same(two, want) {
		t.Errorf("two answers share memory: %q", two.Body)
	}
	holds(t, "written over", s, state{epoch: 2, next: 2, queued: items(want, 1)})
	overwrite(two.Body, 0x66)
	again(t, "written over", s, conf(100, 1, 1), state{epoch: 2, next: 2, queued: items(want, 1)})
}

// Rule of memory: lists that are answered are the caller's own.
func TestAnsweredLists(t *testing.T) {
	c := conf(60, 1)
	s := opened(t, disk.New(1000), c)
	for n := range uint64(3) {
		offers(t, s, of(0, 20), n+1, true)
	}
	one, two := s.Numbers(), s.Numbers()
	overwrite(one, 77)
	if !slices.Equal(two, []uint64{1, 2, 3}) {
		t.Errorf("two answers share memory: %v", two)
	}
	reply, e := s.Offer(of(0, 40))
	if e != api.OK || !slices.Equal(reply.Shed, []uint64{1, 2}) {
		t.Fatalf("Offer is %v, error %d", reply, e)
	}
	other, e := s.Offer(of(0, 60))
	if e != api.OK || !slices.Equal(other.Shed, []uint64{3, 4}) {
		t.Fatalf("Offer is %v, error %d", other, e)
	}
	overwrite(other.Shed, 88)
	if !slices.Equal(reply.Shed, []uint64{1, 2}) || !slices.Equal(two, []uint64{1, 2, 3}) {
		t.Errorf("an answer changed: %v, %v", reply.Shed, two)
	}
	overwrite(reply.Shed, 99)
	want := state{epoch: 1, next: 6, queued: items(of(0, 60), 5), shed: runs.Set{}.Span(1, 4)}
	holds(t, "written over", s, want)
	again(t, "written over", s, c, want)
}

// Values: sets that were answered, or handed in, stay as they were, whatever the spill does then.
func TestSets(t *testing.T) {
	c := conf(60, 1)
	s := opened(t, disk.New(1000), c)
	for n := range uint64(3) {
		offers(t, s, of(0, 20), n+1, true)
	}
	queued, shed, released := s.Queued(), s.Shed(), s.Released()
	gone := runs.Of(1)
	releases(t, s, gone, 1)
	later := s.Released()
	releases(t, s, runs.Of(2), 1)
	offers(t, s, of(0, 60), 4, true, 3)
	overwrite(s.Shed().Runs(), runs.Run{From: 9, To: 9})
	overwrite(s.Released().Runs(), runs.Run{From: 9, To: 9})
	overwrite(s.Queued().Runs(), runs.Run{From: 9, To: 9})
	if !runs.Same(queued, runs.Of(1, 2, 3)) || shed.Count() != 0 || released.Count() != 0 || !runs.Same(later, runs.Of(1)) || !runs.Same(gone, runs.Of(1)) {
		t.Errorf("%v, %v, %v, %v, %v", queued.Runs(), shed.Runs(), released.Runs(), later.Runs(), gone.Runs())
	}
	holds(t, "at last", s, state{epoch: 1, next: 5, queued: items(of(0, 60), 4), shed: runs.Of(3), released: runs.Of(1, 2)})
}

// P10.5: Log is that very one, and its disk is that which was opened.
func TestLog(t *testing.T) {
	d := disk.New(1000)
	s := opened(t, d, conf(100, 1))
	l := s.Log()
	offers(t, s, of(0, 20), 1, true)
	if l == nil || s.Log() != l || l.Disk() != d || l.Next() != 3 {
		t.Errorf("Log is another one")
	}
}

// Two spills, made of the same conf, know nothing of each other; what one is told the other one would answer, too.
func TestTwoSpills(t *testing.T) {
	c := conf(60, 1)
	a, b := opened(t, disk.New(1000), c), opened(t, disk.New(1000), c)
	offers(t, a, of(0, 60), 1, true)
	holds(t, "the other", b, state{epoch: 1, next: 1})
	offers(t, b, of(0, 60), 1, true)
	releases(t, a, runs.Of(1), 1)
	holds(t, "the other", b, state{epoch: 1, next: 2, queued: items(of(0, 60), 1)})
}

// P10.6, P1: of a nil spill.
func TestNil(t *testing.T) {
	var s *spill.Spill
	for _, x := range []span.Span{{}, of(0, 20), {Class: -1}, of(9, 5000)} {
		if got, e := s.Offer(x); e != api.ErrNone || got.Number != 0 || got.Kept || got.Shed != nil {
			t.Errorf("Offer is %v, error %d", got, e)
		}
		if e := s.Begin(x); e != api.ErrNone {
			t.Errorf("Begin is error %d", e)
		}
	}
	for _, set := range []runs.Set{{}, runs.Of(1), runs.Set{}.Span(0, math.MaxUint64)} {
		releases(t, s, set, 0)
	}
	holds(t, "a nil spill", s, state{})
	if s.Log() != nil || s.Numbers() != nil {
		t.Error("a nil spill has a log")
	}
}
