package spill_test

import (
	"math"
	"slices"
	"testing"

	"sumpter/api"
	"sumpter/disk"
	"sumpter/runs"
	"sumpter/seglog"
	"sumpter/span"
	"sumpter/spill"
)

// laid answers a disk with a log of these records, all safe.
func laid(t *testing.T, records ...[]byte) *disk.Disk {
	t.Helper()
	d := disk.New(1 << 22)
	l, e := seglog.Open(d, math.MaxInt)
	for _, p := range records {
		if e == api.OK {
			_, e = l.Append(p)
		}
	}
	if e != api.OK {
		t.Fatalf("laying a log is error %d", e)
	}
	d.Sync()
	return d
}

// fails looks whether Open answers that error, and writes nothing.
func fails(t *testing.T, what string, d *disk.Disk, c spill.Conf, want api.Errno) {
	t.Helper()
	before, waits := d.Copy(), d.Waiting()
	if s, e := spill.Open(d, c); e != want || s != nil {
		t.Fatalf("%s: Open is %v, error %d, want error %d", what, s, e, want)
	}
	if !disk.Same(d, before) || d.Waiting() != waits {
		t.Fatalf("%s: Open that is error %d wrote something", what, want)
	}
}

// roomy is a conf in which all spans of these logs have room.
func roomy() spill.Conf { return conf(1000, 1, 1, 1) }

// P10.2: the queue's error, then the log's.
func TestOpenArguments(t *testing.T) {
	other := laid(t, rec(9))
	broken := disk.New(1000)
	broken.Append(1, make([]byte, 12))
	for _, x := range []struct {
		what string
		d    *disk.Disk
		c    spill.Conf
		want api.Errno
	}{
		{"capacity 0", disk.New(1000), spill.Conf{Capacity: 0, Weights: []int{1}, Segment: 1}, api.ErrArg},
		{"capacity below 0", disk.New(1000), spill.Conf{Capacity: -1, Weights: []int{1}, Segment: 1}, api.ErrArg},
		{"capacity above 2^40", disk.New(1000), spill.Conf{Capacity: 1<<40 + 1, Weights: []int{1}, Segment: 1}, api.ErrArg},
		{"no weights", disk.New(1000), spill.Conf{Capacity: 100, Segment: 1}, api.ErrArg},
		{"a weight of 0", disk.New(1000), spill.Conf{Capacity: 100, Weights: []int{1, 0}, Segment: 1}, api.ErrArg},
		{"too great a weight", disk.New(1000), spill.Conf{Capacity: 100, Weights: []int{1001}, Segment: 1}, api.ErrArg},
		{"too many weights", disk.New(1000), spill.Conf{Capacity: 100, Weights: slices.Repeat([]int{1}, 9), Segment: 1}, api.ErrArg},
		{"segment 0", disk.New(1000), spill.Conf{Capacity: 100, Weights: []int{1}}, api.ErrArg},
		{"segment below 0", disk.New(1000), spill.Conf{Capacity: 100, Weights: []int{1}, Segment: -1}, api.ErrArg},
		{"a zero Conf", disk.New(1000), spill.Conf{}, api.ErrArg},
		{"a zero Conf, no disk", nil, spill.Conf{}, api.ErrArg},
		{"no disk, capacity 0", nil, spill.Conf{Weights: []int{1}, Segment: 1}, api.ErrArg},
		{"no disk, segment 0", nil, spill.Conf{Capacity: 100, Weights: []int{1}}, api.ErrArg},
		{"no disk", nil, conf(100, 1), api.ErrNone},
		{"a broken head", broken, conf(100, 1), api.ErrSum},
		{"a broken head, capacity 0", broken, conf(0, 1), api.ErrArg},
		{"a broken head, segment 0", broken, spill.Conf{Capacity: 100, Weights: []int{1}}, api.ErrArg},
		{"another kind, no weights", other, conf(100), api.ErrArg},
		{"another kind", other, conf(100, 1), api.ErrForm},
	} {
		if x.d == nil {
			if s, e := spill.Open(nil, x.c); e != x.want || s != nil {
				t.Fatalf("%s: Open is %v, error %d, want error %d", x.what, s, e, x.want)
			}
			continue
		}
		fails(t, x.what, x.d, x.c, x.want)
	}
}

// P10.2: layer 7's errors of what a disk has, ahead of what its records tell.
func TestOpenNoLog(t *testing.T) {
	one := append(seglog.Head(1), seglog.Record(rec(1, 1))...)
	other := append(seglog.Head(1), seglog.Record(rec(9))...)
	turned := seglog.Record(rec(1, 2))
	turned[len(turned)-1] ^= 1
	tooLong := []byte{0xff, 0xff, 0xff, 0x7f}
	for _, x := range []struct {
		what string
		p    [][]byte
		want api.Errno
	}{
		{"a head's sum", [][]byte{make([]byte, 12)}, api.ErrSum},
		{"a record's sum", [][]byte{one, turned}, api.ErrSum},
		{"another kind, then a record's sum", [][]byte{other, turned}, api.ErrSum},
		{"a head of number 0", [][]byte{seglog.Head(0)}, api.ErrForm},
		{"a head of 2^62", [][]byte{seglog.Head(tooGreat)}, api.ErrForm},
		{"too long a record", [][]byte{one, tooLong}, api.ErrForm},
	} {
		d := disk.New(1000)
		d.Append(1, slices.Concat(x.p...))
		fails(t, x.what, d, conf(100, 1), x.want)
	}
}

// P10.2: what is torn at the log's end says nothing.
func TestOpenTorn(t *testing.T) {
	whole := put(of(0, 20), 1, 0, 0)
	for n := range len(seglog.Record(whole)) {
		d := laid(t, rec(1, 1))
		d.Append(1, seglog.Record(whole)[:n])
		holds(t, "torn", opened(t, d, roomy()), state{epoch: 2, next: 1})
		holds(t, "torn, opened again", opened(t, d, roomy()), state{epoch: 3, next: 1})
	}
	d := laid(t, rec(1, 1))
	d.Append(1, seglog.Record(whole))
	holds(t, "whole", opened(t, d, roomy()), state{epoch: 2, next: 2, queued: items(of(0, 20), 1)})
}

// P10.1, P10.2: of a new disk all is at its beginning, but the epoch, which is 1; that is told, and safe.
func TestOpenNew(t *testing.T) {
	for _, c := range []spill.Conf{conf(1, 1), conf(1<<40, slices.Repeat([]int{1000}, 8)...), {Capacity: 100, Weights: []int{1}, Segment: 1}} {
		d := disk.New(1000)
		s := opened(t, d, c)
		holds(t, "a new one", s, state{epoch: 1, next: 1})
		last(t, "a new one", s, 1, rec(1, 1))
		if s.Log().Disk() != d || d.Waiting() != 0 || d.Used() != 12+8+2 || s.Log() != s.Log() {
			t.Fatalf("%d wait, %d are used", d.Waiting(), d.Used())
		}
	}
}

// P10.2: the epoch's record is the log's error, if it can't be Appended.
func TestOpenFull(t *testing.T) {
	fails(t, "no room", disk.New(0), conf(100, 1), api.ErrFull)
	fails(t, "a byte too little", disk.New(12+8+1), conf(100, 1), api.ErrFull)
	opened(t, disk.New(12+8+2), conf(100, 1))
	d := laid(t, rec(1, 7), put(of(0, 20), 1, 0, 0))
	d.Full(true)
	fails(t, "told to be full", d, conf(100, 1), api.ErrFull)
	fails(t, "told to be full, and no spill", d, conf(19, 1), api.ErrForm)
	d.Full(false)
	holds(t, "no longer full", opened(t, d, conf(100, 1)), state{epoch: 8, next: 2, queued: items(of(0, 20), 1)})
}

// P10.2, P10.6: each Open has a greater epoch, whatever a crash leaves between.
func TestEpochs(t *testing.T) {
	d := disk.New(1000)
	for epoch := uint64(1); epoch < 20; epoch++ {
		s := opened(t, d, conf(100, 1))
		last(t, "an epoch", s, epoch, rec(1, epoch))
		holds(t, "an epoch", s, state{epoch: epoch, next: 1})
		d = d.Crash(0, 0)
	}
}

// ends is 2^62 - 1, the greatest number that a record may tell.
const ends = tooGreat - 1

// P10.2: logs of records of each kind, and what they tell.
func TestOpenRecords(t *testing.T) {
	a, b := of(0, 20), of(2, 16)
	for _, x := range []struct {
		what string
		log  [][]byte
		want state
	}{
		{"none", nil, state{epoch: 1, next: 1}},
		{"an epoch", [][]byte{rec(1, 5)}, state{epoch: 6, next: 1}},
		{"epochs", [][]byte{rec(1, 1), rec(1, 2), rec(1, 200)}, state{epoch: 201, next: 1}},
		{"the greatest epoch", [][]byte{rec(1, ends)}, state{epoch: tooGreat, next: 1}},
		{"one is put", [][]byte{put(a, 1, 0, 0)}, state{epoch: 1, next: 2, queued: items(a, 1)}},
		{"some are put", [][]byte{put(a, 1, 0, 0), put(b, 2, 0, 0)}, state{epoch: 1, next: 3, queued: []span.Item{item(1, a), item(2, b)}}},
		{"an empty one", [][]byte{put(span.Span{Class: 1}, 1, 0, 0)}, state{epoch: 1, next: 2, queued: items(span.Span{Class: 1}, 1)}},
		{"numbers that are left out", [][]byte{put(a, 3, 0, 0), put(b, 300, 0, 0)}, state{epoch: 1, next: 301, queued: []span.Item{item(3, a), item(300, b)}}},
		{"the greatest number", [][]byte{put(a, ends, 0, 0)}, state{epoch: 1, next: tooGreat, queued: items(a, ends)}},
		{"one is shed itself", [][]byte{rec(2, 4, 0, 0, 0)}, state{epoch: 1, next: 5, shed: runs.Of(4)}},
		{"the greatest number is shed itself", [][]byte{rec(2, ends, 0, 0, 0)}, state{epoch: 1, next: tooGreat, shed: runs.Of(ends)}},
		{"one is shed by one that is put", [][]byte{put(a, 1, 0, 0), put(b, 2, 0, 1, 1)}, state{epoch: 1, next: 3, queued: items(b, 2), shed: runs.Of(1)}},
		{"one is shed by one that is shed itself", [][]byte{put(a, 1, 0, 0), rec(2, 2, 0, 1, 1, 0)}, state{epoch: 1, next: 3, shed: runs.Of(1, 2)}},
		{"some are shed, not rising, and again", [][]byte{put(a, 1, 0, 0), put(a, 2, 0, 0), put(a, 3, 0, 0), put(b, 4, 0, 4, 3, 1, 3, 3)},
			state{epoch: 1, next: 5, queued: []span.Item{item(2, a), item(4, b)}, shed: runs.Of(1, 3)}},
		{"who isn't queued is shed", [][]byte{put(a, 5, 0, 3, 0, 2, ends)}, state{epoch: 1, next: 6, queued: items(a, 5), shed: runs.Of(0, 2, ends)}},
		{"its own number is shed, then put", [][]byte{put(a, 5, 0, 1, 5)}, state{epoch: 1, next: 6, queued: items(a, 5), shed: runs.Of(5)}},
		{"some are released by an offer", [][]byte{put(a, 1, 0, 0), put(a, 2, 0, 0), put(b, 4, 1, 0, 1, 0)},
			state{epoch: 1, next: 5, queued: []span.Item{item(2, a), item(4, b)}, released: runs.Of(0, 1)}},
		{"who comes is released, then put", [][]byte{put(a, 4, 2, 2, 7, 9, ends, 0)},
			state{epoch: 1, next: 5, queued: items(a, 4), released: runs.Set{}.Span(2, 7).Span(9, ends)}},
		{"one is released, and shed", [][]byte{put(a, 1, 0, 0), put(b, 2, 1, 1, 1, 1, 1)}, state{epoch: 1, next: 3, queued: items(b, 2), shed: runs.Of(1), released: runs.Of(1)}},
		{"nobody is released", [][]byte{put(a, 1, 0, 0), rec(3, 0)}, state{epoch: 1, next: 2, queued: items(a, 1)}},
		{"some are released", [][]byte{put(a, 1, 0, 0), put(b, 2, 0, 0), put(a, 3, 0, 0), rec(3, 2, 1, 1, 3, 3)},
			state{epoch: 1, next: 4, queued: items(b, 2), released: runs.Of(1, 3)}},
		{"all are released", [][]byte{put(a, 1, 0, 0), put(b, 2, 0, 0), rec(3, 1, 0, ends)},
			state{epoch: 1, next: 3, released: runs.Set{}.Span(0, ends)}},
		{"who isn't queued is released", [][]byte{rec(3, 2, 2, 3, 5, 5), put(a, 2, 0, 0)}, state{epoch: 1, next: 3, queued: items(a, 2), released: runs.Of(2, 3, 5)}},
		{"released again", [][]byte{put(a, 1, 0, 0), rec(3, 1, 1, 1), rec(3, 1, 1, 2)}, state{epoch: 1, next: 2, released: runs.Of(1, 2)}},
		{"all, of nothing", [][]byte{rec(4, 0, 0, 0, 0)}, state{epoch: 1, next: 1}},
		{"all", [][]byte{rec(4, 9, 7, 1, 1, 3, 2, 5, 5, 8, 8)}, state{epoch: 8, next: 9, shed: runs.Of(1, 2, 3), released: runs.Of(5, 8)}},
		{"all is less than what is known", [][]byte{rec(1, 6), put(a, 8, 0, 0), rec(4, 3, 2, 0, 0)}, state{epoch: 7, next: 9, queued: items(a, 8)}},
		{"all is greater than what is known", [][]byte{rec(1, 6), put(a, 8, 0, 0), rec(4, 20, 30, 0, 0), rec(1, 31)}, state{epoch: 32, next: 20, queued: items(a, 8)}},
		{"all of them go out of the queue", [][]byte{put(a, 1, 0, 0), put(a, 2, 0, 0), put(b, 3, 0, 1, 1), rec(3, 1, 6, 6), rec(4, 4, 0, 1, 2, 2, 1, 3, 3)},
			state{epoch: 1, next: 4, shed: runs.Of(1, 2), released: runs.Of(3, 6)}},
		{"all of one set", [][]byte{put(a, 1, 0, 0), rec(4, 4, 0, 1, 1, 2, 1, 1, 2)}, state{epoch: 1, next: 4, shed: runs.Of(1, 2), released: runs.Of(1, 2)}},
		{"the greatest of all", [][]byte{rec(4, ends, ends, 1, 0, ends, 1, 0, ends)},
			state{epoch: tooGreat, next: ends, shed: runs.Set{}.Span(0, ends), released: runs.Set{}.Span(0, ends)}},
		{"of each kind, behind all", [][]byte{rec(4, 9, 7, 0, 0), rec(1, 8), put(a, 9, 0, 0), rec(3, 1, 9, 9), rec(2, 12, 0, 0, 0)},
			state{epoch: 9, next: 13, shed: runs.Of(12), released: runs.Of(9)}},
		{"the room is made by who is shed", [][]byte{put(of(0, 990), 1, 0, 0), put(of(0, 1000), 2, 0, 1, 1)},
			state{epoch: 1, next: 3, queued: items(of(0, 1000), 2), shed: runs.Of(1)}},
		{"the room is made by who is released", [][]byte{put(of(0, 990), 1, 0, 0), put(of(0, 1000), 2, 1, 1, 1, 0)},
			state{epoch: 1, next: 3, queued: items(of(0, 1000), 2), released: runs.Of(1)}},
	} {
		d := laid(t, x.log...)
		s := opened(t, d, roomy())
		holds(t, x.what, s, x.want)
		last(t, x.what, s, uint64(len(x.log)+1), rec(1, x.want.epoch))
		if d.Waiting() != 0 {
			t.Fatalf("%s: the epoch isn't safe", x.what)
		}
	}
}

// P10.2: records that aren't so written, or that can't come where they stand.
func TestOpenForm(t *testing.T) {
	a := of(0, 20)
	two := [][]byte{rec(1, 3), put(a, 1, 0, 0), put(a, 2, 0, 0)}
	for _, x := range []struct {
		what string
		p    []byte
	}{
		{"no bytes", nil},
		{"kind 0", rec(0)},
		{"kind 0 with a number", rec(0, 7)},
		{"kind 5", rec(5, 7)},
		{"kind 255", rec(255)},
		{"kind 1 in more bytes", []byte{0x81, 0}},
		{"an epoch that is missing", rec(1)},
		{"an epoch that isn't all there", []byte{1, 0x84}},
		{"an epoch in more bytes", []byte{1, 0x84, 0}},
		{"an epoch of more than 64 bits", append([]byte{1}, 0xff, 0xff, 0xff, 0xff, 0xff, 0xff, 0xff, 0xff, 0xff, 2)},
		{"an epoch of 2^62", rec(1, tooGreat)},
		{"the greatest epoch", rec(1, most)},
		{"bytes behind an epoch", rec(1, 4, 0)},
		{"an epoch of 0", rec(1, 0)},
		{"a lesser epoch", rec(1, 2)},
		{"the same epoch", rec(1, 3)},

		{"an offer of nothing", rec(2)},
		{"an offer of a number alone", rec(2, 3)},
		{"an offer without victims", rec(2, 3, 0)},
		{"an offer without its byte", rec(2, 3, 0, 0)},
		{"an offer of 2 for its byte", rec(2, 3, 0, 0, 2)},
		{"an offer of 255 for its byte", append(rec(2, 3, 0, 0), 255)},
		{"an offer of 2 for its byte, and a span", append(rec(2, 3, 0, 0, 2), a.Put(nil)...)},
		{"an offer of 0 for its byte, and a span", append(rec(2, 3, 0, 0, 0), a.Put(nil)...)},
		{"an offer of 1 for its byte, and no span", rec(2, 3, 0, 0, 1)},
		{"an offer of 1 for its byte in two", append(append(rec(2, 3, 0, 0), 0x81, 0), a.Put(nil)...)},
		{"bytes behind a span", append(put(a, 3, 0, 0), 0)},
		{"a span that isn't all there", put(a, 3, 0, 0)[:8]},
		{"a body of which nothing is there", rec(2, 3, 0, 0, 1, 0, 3)},
		{"a class that there isn't", put(of(8, 20), 3, 0, 0)},
		{"class 255", put(of(255, 20), 3, 0, 0)},
		{"a class of no weight", put(of(3, 20), 3, 0, 0)},
		{"too long a body", put(of(0, 4113), 3, 0, 0)},
		{"a number of 0", put(a, 0, 0, 0)},
		{"a number that comes again", put(a, 2, 0, 0)},
		{"a number ahead of that", put(a, 1, 0, 0)},
		{"a number that comes again, and is shed", rec(2, 2, 0, 0, 0)},
		{"a number of 2^62", put(a, tooGreat, 0, 0)},
		{"a number of 2^62 that is shed", rec(2, tooGreat, 0, 0, 0)},
		{"the greatest number", put(a, most, 0, 0)},
		{"a number in more bytes", append([]byte{2, 0x83, 0}, put(a, 0, 0)[1:]...)},
		{"no room", put(of(0, 961), 3, 0, 0)},
		{"no room, though it sheds", put(of(0, 981), 3, 0, 1, 1)},
		{"a run turned round", put(a, 3, 1, 6, 5, 0)},
		{"runs that touch", put(a, 3, 2, 4, 5, 6, 7, 0)},
		{"runs not rising", put(a, 3, 2, 8, 9, 4, 5, 0)},
		{"a run of 2^62", put(a, 3, 1, 4, tooGreat, 0)},
		{"a run from 2^62", put(a, 3, 1, tooGreat, tooGreat, 0)},
		{"fewer runs than told", rec(2, 3, 5, 1, 1)},
		{"2^62 runs", rec(2, 3, tooGreat, 0, 0)},
		{"2^62 - 1 runs", rec(2, 3, ends, 0, 0)},
		{"fewer victims than told", rec(2, 3, 0, 3, 1, 2)},
		{"a victim of 2^62", put(a, 3, 0, 1, tooGreat)},
		{"2^62 victims", rec(2, 3, 0, tooGreat, 0)},
		{"2^62 - 1 victims", rec(2, 3, 0, ends, 0)},
		{"the most victims", rec(2, 3, 0, most, 0)},
		{"a victim in more bytes", append(rec(2, 3, 0, 1), 0x81, 0, 0)},

		{"released of nothing", rec(3)},
		{"released of a run that isn't there", rec(3, 1)},
		{"released of half a run", rec(3, 1, 1)},
		{"bytes behind the released", rec(3, 1, 1, 1, 0)},
		{"bytes behind none released", rec(3, 0, 0)},
		{"released of a run turned round", rec(3, 1, 2, 1)},
		{"released of runs that touch", rec(3, 2, 1, 1, 2, 2)},
		{"released of runs that lie over each other", rec(3, 2, 1, 5, 4, 8)},
		{"released of a run twice", rec(3, 2, 1, 1, 1, 1)},
		{"released of runs not rising", rec(3, 2, 7, 7, 1, 1)},
		{"released up to 2^62", rec(3, 1, 1, tooGreat)},
		{"released from 2^62", rec(3, 1, tooGreat, tooGreat+3)},
		{"the most runs are released", rec(3, most)},
		{"2^62 - 1 runs are released", rec(3, ends, 1, 1)},
		{"released in more bytes", []byte{3, 0x81, 0, 1, 1}},

		{"all of nothing", rec(4)},
		{"all without an epoch", rec(4, 3)},
		{"all without sets", rec(4, 3, 3)},
		{"all without a set", rec(4, 3, 3, 0)},
		{"bytes behind all", rec(4, 3, 3, 0, 0, 0)},
		{"all with 2^62 for what comes next", rec(4, tooGreat, 3, 0, 0)},
		{"all with an epoch of 2^62", rec(4, 3, tooGreat, 0, 0)},
		{"all with 2^62 that is shed", rec(4, 3, 3, 1, 0, tooGreat, 0)},
		{"all with 2^62 that is released", rec(4, 3, 3, 0, 1, 0, tooGreat)},
		{"all with a run turned round", rec(4, 3, 3, 1, 2, 1, 0)},
		{"all with runs that touch", rec(4, 3, 3, 0, 2, 1, 1, 2, 2)},
		{"all with an epoch in more bytes", append([]byte{4, 3, 0x83, 0}, 0, 0)},
	} {
		fails(t, x.what, laid(t, append(slices.Clone(two), x.p)...), roomy(), api.ErrForm)
		fails(t, x.what+", further records", laid(t, append(slices.Clone(two), x.p, rec(1, 9))...), roomy(), api.ErrForm)
	}
	holds(t, "without any of these", opened(t, laid(t, two...), roomy()), state{epoch: 4, next: 3, queued: items(a, 1, 2)})
}

// P10.2: what was known ahead of a record of all tells what may come behind it.
func TestOpenFormBehindAll(t *testing.T) {
	a := of(0, 20)
	for _, x := range []struct {
		what string
		log  [][]byte
	}{
		{"an epoch that all told", [][]byte{rec(4, 5, 7, 0, 0), rec(1, 7)}},
		{"an epoch ahead of that", [][]byte{rec(1, 9), rec(4, 5, 7, 0, 0), rec(1, 8)}},
		{"a number ahead of what all told", [][]byte{rec(4, 5, 7, 0, 0), put(a, 4, 0, 0)}},
		{"a number that came ahead of all", [][]byte{put(a, 8, 0, 0), rec(4, 5, 7, 0, 0), put(a, 8, 0, 0)}},
		{"a number that was left out", [][]byte{put(a, 8, 0, 0), put(a, 5, 0, 0)}},
		{"a number behind one that was shed itself", [][]byte{rec(2, 8, 0, 0, 0), put(a, 7, 0, 0)}},
		{"room that was made but by a number that isn't there", [][]byte{put(of(0, 990), 1, 0, 0), put(a, 2, 1, 3, 3, 1, 4)}},
	} {
		fails(t, x.what, laid(t, x.log...), roomy(), api.ErrForm)
	}
}

// P10.2: a capacity, or weights, that the log's spans don't go with.
func TestOpenAnotherConf(t *testing.T) {
	d := laid(t, put(of(2, 20), 1, 0, 0), put(of(0, 50), 2, 0, 1, 1))
	want := state{epoch: 1, next: 3, queued: items(of(0, 50), 2), shed: runs.Of(1)}
	holds(t, "less capacity", opened(t, d.Copy(), conf(50, 1, 1, 1)), want)
	holds(t, "more weights", opened(t, d.Copy(), conf(50, 9, 9, 9, 9)), want)
	fails(t, "too little capacity", d, conf(49, 1, 1, 1), api.ErrForm)
	fails(t, "too few weights", d, conf(50, 1, 1), api.ErrForm)
}

// P10.2: an epoch, and a number, one above the greatest that a record may tell, are written all the same; no Open reads them.
func TestBeyondGreatest(t *testing.T) {
	d := laid(t, rec(1, ends))
	s := opened(t, d, roomy())
	last(t, "the epoch", s, 2, rec(1, tooGreat))
	fails(t, "the epoch", d, roomy(), api.ErrForm)

	d = laid(t, put(of(0, 20), ends-1, 0, 0))
	s = opened(t, d, roomy())
	offers(t, s, of(0, 20), ends, true)
	holds(t, "the greatest", opened(t, d.Copy(), roomy()), state{epoch: 2, next: tooGreat, queued: items(of(0, 20), ends-1, ends)})
	offers(t, s, of(0, 20), tooGreat, true)
	fails(t, "the number", d, roomy(), api.ErrForm)
}
