package spill_test

import (
	"bytes"
	"encoding/binary"
	"math"
	"slices"
	"testing"

	"sumpter/api"
	"sumpter/disk"
	"sumpter/runs"
	"sumpter/seglog"
	"sumpter/span"
	"sumpter/spill"
)

const (
	// most is the greatest number, tooGreat the least that no record may tell, many is how many spans may be queued.
	most     = math.MaxUint64
	tooGreat = 1 << 62
	many     = 1 << 16
)

// of answers a span of that class, and of that Size.
func of(class, size int) span.Span {
	return span.Span{Class: class, Body: bytes.Repeat([]byte{byte(size)}, size-span.Over)}
}

// item answers an item of that span.
func item(n uint64, s span.Span) span.Item {
	return span.Item{Number: n, Span: s}
}

// items answers items of one span.
func items(s span.Span, numbers ...uint64) []span.Item {
	var l []span.Item
	for _, n := range numbers {
		l = append(l, item(n, s))
	}
	return l
}

// conf answers a conf of a capacity and of weights, whose log has all in one segment.
func conf(capacity int, weights ...int) spill.Conf {
	return spill.Conf{Capacity: capacity, Weights: weights, Segment: math.MaxInt}
}

// rec is a record of that kind and of these numbers, written a second way.
func rec(kind byte, numbers ...uint64) []byte {
	p := []byte{kind}
	for _, n := range numbers {
		p = binary.AppendUvarint(p, n)
	}
	return p
}

// put is a record of kind 2 of a span that is kept, written a second way; ahead are the numbers up to its victims.
func put(s span.Span, ahead ...uint64) []byte {
	p := append(rec(2, ahead...), 1, byte(s.Class))
	return append(binary.AppendUvarint(p, uint64(len(s.Body))), s.Body...)
}

// state is all that a spill tells.
type state struct {
	epoch, next    uint64
	queued         []span.Item
	shed, released runs.Set
}

// opened answers a disk's spill, which must be one.
func opened(t *testing.T, d *disk.Disk, c spill.Conf) *spill.Spill {
	t.Helper()
	s, e := spill.Open(d, c)
	if e != api.OK || s == nil {
		t.Fatalf("Open is error %d", e)
	}
	return s
}

// offers looks whether an Offer is answered so.
func offers(t *testing.T, s *spill.Spill, x span.Span, number uint64, kept bool, shed ...uint64) {
	t.Helper()
	got, e := s.Offer(x)
	if e != api.OK || got.Number != number || got.Kept != kept || !slices.Equal(got.Shed, shed) {
		t.Fatalf("Offer of class %d, Size %d is %v, error %d, want %d, %v, %v", x.Class, x.Size(), got, e, number, kept, shed)
	}
}

// releases looks whether so many go.
func releases(t *testing.T, s *spill.Spill, set runs.Set, want int) {
	t.Helper()
	if got := s.Release(set); got != want {
		t.Fatalf("Release of %v is %d, want %d", set.Runs(), got, want)
	}
}

// holds looks whether a spill tells just that.
func holds(t *testing.T, what string, s *spill.Spill, want state) {
	t.Helper()
	var numbers []uint64
	all, base := 0, want.next
	for _, i := range want.queued {
		numbers = append(numbers, i.Number)
		all += i.Size()
		if got, ok := s.Get(i.Number); !ok || !span.Same(got, i.Span) {
			t.Fatalf("%s: Get(%d) is %v, %v, want %v", what, i.Number, got, ok, i.Span)
		}
	}
	if len(numbers) > 0 {
		base = numbers[0]
	}
	if got := s.Numbers(); !slices.Equal(got, numbers) {
		t.Fatalf("%s: Numbers are %v, want %v", what, got, numbers)
	}
	if got := s.Queued(); !runs.Same(got, runs.Of(numbers...)) {
		t.Fatalf("%s: Queued are %v, want %v", what, got.Runs(), numbers)
	}
	if s.Epoch() != want.epoch || s.Next() != want.next || s.Base() != base || s.Bytes() != all {
		t.Fatalf("%s: Epoch %d, Next %d, Base %d, Bytes %d, want %d, %d, %d, %d",
			what, s.Epoch(), s.Next(), s.Base(), s.Bytes(), want.epoch, want.next, base, all)
	}
	if !runs.Same(s.Shed(), want.shed) || !runs.Same(s.Released(), want.released) {
		t.Fatalf("%s: Shed %v, Released %v, want %v, %v",
			what, s.Shed().Runs(), s.Released().Runs(), want.shed.Runs(), want.released.Runs())
	}
	for _, n := range []uint64{0, want.next, most} {
		if got, ok := s.Get(n); !slices.Contains(numbers, n) && (ok || got.Class != 0 || got.Body != nil) {
			t.Fatalf("%s: Get(%d), which isn't there, is %v, %v", what, n, got, ok)
		}
	}
}

// again looks whether what a spill's disk has tells the same as the spill, an epoch later.
func again(t *testing.T, what string, s *spill.Spill, c spill.Conf, want state) {
	t.Helper()
	want.epoch++
	holds(t, what+", opened again", opened(t, s.Log().Disk().Copy(), c), want)
}

// refuses looks whether Offer and Begin of x answer that error, and change nothing.
func refuses(t *testing.T, s *spill.Spill, x span.Span, want api.Errno) {
	t.Helper()
	d := s.Log().Disk()
	before, waits, next := d.Copy(), d.Waiting(), s.Next()
	queued, shed, released := s.Numbers(), s.Shed(), s.Released()
	got, e := s.Offer(x)
	if e != want || got.Number != 0 || got.Kept || got.Shed != nil {
		t.Fatalf("Offer of class %d, Size %d is %v, error %d, want error %d", x.Class, x.Size(), got, e, want)
	}
	if e := s.Begin(x); e != want {
		t.Fatalf("Begin of class %d, Size %d is error %d, want %d", x.Class, x.Size(), e, want)
	}
	if !disk.Same(d, before) || d.Waiting() != waits || s.Next() != next || !slices.Equal(s.Numbers(), queued) ||
		!runs.Same(s.Shed(), shed) || !runs.Same(s.Released(), released) {
		t.Fatalf("an error, %d, changed something", want)
	}
}

// last looks which record is the log's last one.
func last(t *testing.T, what string, s *spill.Spill, number uint64, want []byte) {
	t.Helper()
	l := s.Log()
	if got, e := l.Get(l.Next() - 1); l.Next()-1 != number || e != api.OK || !bytes.Equal(got, want) {
		t.Fatalf("%s: record %d is %x, error %d, want %d, %x", what, l.Next()-1, got, e, number, want)
	}
}

// P10.2: the chapter's example.
func TestExample(t *testing.T) {
	s := opened(t, disk.New(1000), conf(100, 1, 1))
	if s.Epoch() != 1 || s.Base() != 1 {
		t.Errorf("Epoch %d, Base %d", s.Epoch(), s.Base())
	}
	offers(t, s, of(1, 20), 1, true)
}

// P10.1, P10.3: what is offered is queued by the number that comes next, and told by a record that is safe.
func TestOfferKept(t *testing.T) {
	c := conf(100, 1, 1)
	s := opened(t, disk.New(1000), c)
	offers(t, s, of(1, 20), 1, true)
	last(t, "1", s, 2, put(of(1, 20), 1, 0, 0))
	offers(t, s, of(0, 16), 2, true)
	last(t, "2", s, 3, put(of(0, 16), 2, 0, 0))
	offers(t, s, of(0, 64), 3, true)
	if s.Log().Disk().Waiting() != 0 {
		t.Error("an offer that was answered isn't safe")
	}
	want := state{epoch: 1, next: 4, queued: []span.Item{item(1, of(1, 20)), item(2, of(0, 16)), item(3, of(0, 64))}}
	holds(t, "three", s, want)
	again(t, "three", s, c, want)
}

// P10.3: a span as great as can be, and numbers of more than one byte.
func TestOfferGreat(t *testing.T) {
	c := conf(1<<40, 1, 1, 1, 1, 1, 1, 1, 1)
	s := opened(t, disk.New(1<<20), c)
	want := state{epoch: 1}
	for n := uint64(1); n <= 130; n++ {
		offers(t, s, of(7, 4112), n, true)
		want.queued = append(want.queued, item(n, of(7, 4112)))
	}
	last(t, "130", s, 131, put(of(7, 4112), 130, 0, 0))
	want.next = 131
	holds(t, "great ones", s, want)
	again(t, "great ones", s, c, want)
}

// P10.3: the oldest of the class that is furthest above its share are shed, in the queue's order.
func TestOfferSheds(t *testing.T) {
	c := conf(100, 1, 1)
	s := opened(t, disk.New(1000), c)
	offers(t, s, of(0, 20), 1, true)
	offers(t, s, of(1, 30), 2, true)
	offers(t, s, of(0, 20), 3, true)
	offers(t, s, of(0, 20), 4, true)
	offers(t, s, of(1, 55), 5, true, 2, 1)
	last(t, "two are shed", s, 6, put(of(1, 55), 5, 0, 2, 2, 1))
	want := state{epoch: 1, next: 6, queued: []span.Item{item(3, of(0, 20)), item(4, of(0, 20)), item(5, of(1, 55))}, shed: runs.Of(1, 2)}
	holds(t, "two are shed", s, want)
	again(t, "two are shed", s, c, want)
	offers(t, s, of(0, 20), 6, true, 3)
	want.queued = append(want.queued[1:], item(6, of(0, 20)))
	want.next, want.shed = 7, runs.Of(1, 2, 3)
	holds(t, "one more", s, want)
	again(t, "one more", s, c, want)
}

// P10.3: one that comes may be shed itself, with others of its class or alone; its number is gone.
func TestOfferItself(t *testing.T) {
	c := conf(100, 1, 4)
	s := opened(t, disk.New(1000), c)
	offers(t, s, of(0, 16), 1, true)
	offers(t, s, of(1, 60), 2, true)
	offers(t, s, of(0, 16), 3, true)
	offers(t, s, of(0, 60), 4, false, 1, 3)
	last(t, "with others", s, 5, rec(2, 4, 0, 2, 1, 3, 0))
	want := state{epoch: 1, next: 5, queued: items(of(1, 60), 2), shed: runs.Of(1, 3, 4)}
	holds(t, "with others", s, want)
	again(t, "with others", s, c, want)
	offers(t, s, of(0, 50), 5, false)
	last(t, "alone", s, 6, rec(2, 5, 0, 0, 0))
	want.next, want.shed = 6, runs.Of(1, 3, 4, 5)
	holds(t, "alone", s, want)
	again(t, "alone", s, c, want)
	offers(t, s, of(0, 40), 6, true)
}

// P10.3: the queue's errors: a class that there isn't, one that isn't Right, a Size above the capacity; nothing changes.
func TestOfferErrors(t *testing.T) {
	c := conf(100, 1, 1)
	s := opened(t, disk.New(1000), c)
	offers(t, s, of(0, 60), 1, true)
	offers(t, s, of(0, 60), 2, true, 1)
	for _, x := range []span.Span{of(2, 16), of(7, 16), of(8, 16), {Class: -1}, {Class: math.MinInt}, {Class: math.MaxInt}, of(0, 4113), of(2, 101)} {
		refuses(t, s, x, api.ErrArg)
	}
	refuses(t, s, of(0, 101), api.ErrLong)
	refuses(t, s, of(1, 4112), api.ErrLong)
	s.Log().Disk().Full(true)
	refuses(t, s, of(2, 16), api.ErrArg)
	refuses(t, s, of(0, 101), api.ErrLong)
	want := state{epoch: 1, next: 3, queued: items(of(0, 60), 2), shed: runs.Of(1)}
	holds(t, "errors", s, want)
	s.Log().Disk().Full(false)
	offers(t, s, of(1, 50), 3, true, 2)
}

// P10.3: on a full disk nothing changes, neither who comes nor who would be shed; later it goes on by the same number.
func TestOfferFull(t *testing.T) {
	c := conf(100, 1, 4)
	s := opened(t, disk.New(1000), c)
	offers(t, s, of(0, 60), 1, true)
	want := state{epoch: 1, next: 2, queued: items(of(0, 60), 1)}
	s.Log().Disk().Full(true)
	refuses(t, s, of(0, 16), api.ErrFull)
	refuses(t, s, of(0, 60), api.ErrFull)
	refuses(t, s, of(1, 60), api.ErrFull)
	holds(t, "full", s, want)
	s.Log().Disk().Full(false)
	again(t, "full", s, c, want)
	offers(t, s, of(1, 60), 2, true, 1)
	want = state{epoch: 1, next: 3, queued: items(of(1, 60), 2), shed: runs.Of(1)}
	holds(t, "no longer full", s, want)
	again(t, "no longer full", s, c, want)
}

// P10.3: a disk whose room is just enough for a record, and one byte less.
func TestOfferRoom(t *testing.T) {
	// A head, the records of the epoch and of the offer: 12, 8 and 2, 8 and 5, 4 and 10.
	const needs = 12 + 8 + 2 + 8 + 5 + 2 + 14
	s := opened(t, disk.New(needs), conf(100, 1))
	offers(t, s, of(0, 30), 1, true)
	refuses(t, s, of(0, 16), api.ErrFull)
	s = opened(t, disk.New(needs-1), conf(100, 1))
	refuses(t, s, of(0, 30), api.ErrFull)
	offers(t, s, of(0, 29), 1, true)
}

// crowd answers a spill of that capacity in which as many spans are queued as may be, class 0, bodies of none.
func crowd(t *testing.T, c spill.Conf) *spill.Spill {
	t.Helper()
	s := opened(t, disk.New(1<<30), c)
	for n := range uint64(many) {
		offers(t, s, of(0, 16), n+1, true)
	}
	return s
}

// P10.2, P10.3: 2^16 spans are queued: no more, unless one of them is shed; and a log that tells of more is none.
func TestOfferMany(t *testing.T) {
	c := conf(16*many+20, 1, 1)
	s := crowd(t, c)
	refuses(t, s, of(0, 16), api.ErrFull)
	refuses(t, s, of(1, 20), api.ErrFull)
	l, e := seglog.Open(s.Log().Disk().Copy(), c.Segment)
	if e != api.OK {
		t.Fatal(e)
	}
	l.Append(put(of(0, 16), many+1, 0, 0))
	if s, e := spill.Open(l.Disk(), c); e != api.ErrForm || s != nil {
		t.Fatalf("Open of a log of too many is error %d", e)
	}
	offers(t, s, of(1, 21), many+1, true, 1)
	x := opened(t, s.Log().Disk(), c)
	if x.Bytes() != 16*(many-1)+21 || x.Base() != 2 || x.Next() != many+2 || len(x.Numbers()) != many {
		t.Fatalf("Bytes %d, Base %d, Next %d", x.Bytes(), x.Base(), x.Next())
	}
	releases(t, x, runs.Set{}.Span(0, most), many)
	holds(t, "all are released", x, state{epoch: 2, next: many + 2, shed: runs.Of(1), released: runs.Set{}.Span(2, many+1)})
}

// P10.4: of who isn't queued nobody goes, and nothing is written.
func TestReleaseNone(t *testing.T) {
	c := conf(100, 1, 1)
	s := opened(t, disk.New(1000), c)
	releases(t, s, runs.Set{}.Span(0, most), 0)
	offers(t, s, of(0, 20), 1, true)
	offers(t, s, of(0, 60), 2, true)
	offers(t, s, of(0, 60), 3, true, 1, 2)
	releases(t, s, runs.Of(3), 1)
	offers(t, s, of(0, 60), 4, true)
	d := s.Log().Disk()
	before := d.Copy()
	want := state{epoch: 1, next: 5, queued: items(of(0, 60), 4), shed: runs.Of(1, 2), released: runs.Of(3)}
	for _, set := range []runs.Set{{}, runs.Of(0), runs.Of(1, 2, 3), runs.Of(0, 5, 6, most), runs.Set{}.Span(5, most), runs.Set{}.Span(0, 3)} {
		releases(t, s, set, 0)
		if !disk.Same(d, before) || d.Waiting() != 0 {
			t.Fatalf("a Release of nobody, %v, wrote something", set.Runs())
		}
		holds(t, "nobody goes", s, want)
	}
}

// P10.4: those of the queue that are in the set go; a record of just them is appended, but not safe yet.
func TestReleaseSome(t *testing.T) {
	c := conf(200, 1, 1)
	s := opened(t, disk.New(1000), c)
	want := state{epoch: 1, next: 9}
	for n := uint64(1); n <= 8; n++ {
		offers(t, s, of(int(n%2), 20), n, true)
		want.queued = append(want.queued, item(n, of(int(n%2), 20)))
	}
	// Fewer than are queued.
	releases(t, s, runs.Of(3, 4, 7, 99), 3)
	last(t, "fewer", s, 10, rec(3, 2, 3, 4, 7, 7))
	if s.Log().Disk().Waiting() != 1 {
		t.Fatal("a Release is safe")
	}
	want.queued = slices.DeleteFunc(want.queued, func(i span.Item) bool { return i.Number == 3 || i.Number == 4 || i.Number == 7 })
	want.released = runs.Of(3, 4, 7)
	holds(t, "fewer", s, want)
	again(t, "fewer", s, c, want)
	// More than are queued.
	releases(t, s, runs.Set{}.Span(0, 5).Span(8, most), 4)
	last(t, "more", s, 11, rec(3, 3, 1, 2, 5, 5, 8, 8))
	want.queued = want.queued[3:4]
	want.released = runs.Set{}.Span(1, 5).Span(7, 8)
	holds(t, "more", s, want)
	again(t, "more", s, c, want)
	releases(t, s, runs.Of(6), 1)
	last(t, "the last one", s, 12, rec(3, 1, 6, 6))
	want = state{epoch: 1, next: 9, released: runs.Set{}.Span(1, 8)}
	holds(t, "all", s, want)
	again(t, "all", s, c, want)
	if len(s.Log().Disk().Segs()) != 1 {
		t.Error("there is another segment")
	}
}

// P10.4, P10.6: a crash ahead of the next Sync undoes a Release, or leaves it whole.
func TestReleaseCrash(t *testing.T) {
	c := conf(100, 1)
	s := opened(t, disk.New(1000), c)
	offers(t, s, of(0, 20), 1, true)
	offers(t, s, of(0, 20), 2, true)
	releases(t, s, runs.Of(1), 1)
	for torn := range 14 {
		x := opened(t, s.Log().Disk().Crash(0, torn), c)
		holds(t, "undone", x, state{epoch: 2, next: 3, queued: items(of(0, 20), 1, 2)})
	}
	done := state{epoch: 2, next: 3, queued: items(of(0, 20), 2), released: runs.Of(1)}
	holds(t, "done", opened(t, s.Log().Disk().Crash(1, 0), c), done)
	offers(t, s, of(0, 20), 3, true)
	done.next, done.queued = 4, items(of(0, 20), 2, 3)
	holds(t, "safe by an Offer", opened(t, s.Log().Disk().Crash(0, 0), c), done)
}

// P10.4: on a full disk who is released goes all the same, and waits for the next record of an offer.
func TestReleaseWaitsForOffer(t *testing.T) {
	c := conf(100, 1, 1)
	s := opened(t, disk.New(1000), c)
	for n := range uint64(5) {
		offers(t, s, of(0, 20), n+1, true)
	}
	s.Log().Disk().Full(true)
	releases(t, s, runs.Of(2), 1)
	releases(t, s, runs.Of(4, 2), 1)
	want := state{epoch: 1, next: 6, queued: items(of(0, 20), 1, 3, 5), released: runs.Of(2, 4)}
	holds(t, "full", s, want)
	refuses(t, s, of(0, 60), api.ErrFull)
	holds(t, "full, and an offer", s, want)
	s.Log().Disk().Full(false)
	releases(t, s, runs.Of(2, 4), 0)
	again(t, "no record yet", s, c, state{epoch: 1, next: 6, queued: items(of(0, 20), 1, 2, 3, 4, 5)})
	offers(t, s, of(0, 60), 6, true, 1)
	last(t, "told", s, 7, put(of(0, 60), 6, 2, 2, 2, 4, 4, 1, 1))
	want = state{epoch: 1, next: 7, queued: append(items(of(0, 20), 3, 5), item(6, of(0, 60))), shed: runs.Of(1), released: runs.Of(2, 4)}
	holds(t, "told", s, want)
	again(t, "told", s, c, want)
	// Once they were told they are not told again.
	offers(t, s, of(1, 56), 7, true, 3, 5, 6)
	last(t, "told once", s, 8, put(of(1, 56), 7, 0, 3, 3, 5, 6))
	releases(t, s, runs.Of(7), 1)
	last(t, "told once", s, 9, rec(3, 1, 7, 7))
}

// P10.4: it waits for the next record of a release, too; and for one of an offer that is shed itself.
func TestReleaseWaitsForRelease(t *testing.T) {
	c := conf(100, 1, 4)
	s := opened(t, disk.New(1000), c)
	for n := range uint64(5) {
		offers(t, s, of(1, 20), n+1, true)
	}
	s.Log().Disk().Full(true)
	releases(t, s, runs.Of(2), 1)
	s.Log().Disk().Full(false)
	releases(t, s, runs.Of(3, 5), 2)
	last(t, "told", s, 7, rec(3, 2, 2, 3, 5, 5))
	again(t, "told", s, c, state{epoch: 1, next: 6, queued: items(of(1, 20), 1, 4), released: runs.Of(2, 3, 5)})
	s.Log().Disk().Full(true)
	releases(t, s, runs.Of(1), 1)
	s.Log().Disk().Full(false)
	offers(t, s, of(0, 90), 6, false)
	last(t, "told by one that is shed", s, 8, rec(2, 6, 1, 1, 1, 0, 0))
	offers(t, s, of(1, 20), 7, true)
	last(t, "told once", s, 9, put(of(1, 20), 7, 0, 0))
}
