package spill_test

import (
	"slices"
	"testing"

	"sumpter/api"
	"sumpter/disk"
	"sumpter/runs"
	"sumpter/seglog"
	"sumpter/spill"
)

// single is a conf in which each record has a segment of its own.
func single(capacity int, weights ...int) spill.Conf {
	return spill.Conf{Capacity: capacity, Weights: weights, Segment: 1}
}

// stands looks from which record on the log goes, how many segments it has, and how many calls of the disk wait.
func stands(t *testing.T, what string, s *spill.Spill, first uint64, segs, waits int) {
	t.Helper()
	l := s.Log()
	if l.First() != first || l.Segs() != segs || l.Disk().Waiting() != waits {
		t.Fatalf("%s: %d segments from record %d on, %d calls wait, want %d, %d, %d", what, l.Segs(), l.First(), l.Disk().Waiting(), segs, first, waits)
	}
}

// P10.4: a log isn't cut while fewer than two segments are to spare.
func TestNotCut(t *testing.T) {
	c := single(100, 1)
	s := opened(t, disk.New(1000), c)
	offers(t, s, of(0, 20), 1, true)
	offers(t, s, of(0, 20), 2, true)
	offers(t, s, of(0, 20), 3, true)
	// The epoch's segment is to spare, and no other.
	releases(t, s, runs.Of(3), 1)
	stands(t, "one to spare", s, 1, 5, 1)
	last(t, "one to spare", s, 5, rec(3, 1, 3, 3))
	// Now the first one's is, too; a Release of nobody doesn't look at that.
	releases(t, s, runs.Of(1), 1)
	stands(t, "two to spare", s, 3, 5, 2)
	last(t, "two to spare", s, 7, rec(4, 4, 1, 0, 2, 1, 1, 3, 3))
}

// P10.4: what makes segments to spare in an Offer is cut by the next Release of somebody.
func TestNotCutByOffer(t *testing.T) {
	c := single(100, 1)
	s := opened(t, disk.New(1000), c)
	for n := range uint64(4) {
		offers(t, s, of(0, 25), n+1, true)
	}
	offers(t, s, of(0, 75), 5, true, 1, 2, 3)
	stands(t, "an offer", s, 1, 6, 0)
	releases(t, s, runs.Of(1, 2, 3), 0)
	stands(t, "nobody is released", s, 1, 6, 0)
	releases(t, s, runs.Of(4), 1)
	stands(t, "somebody is released", s, 6, 3, 5)
	want := state{epoch: 1, next: 6, queued: items(of(0, 75), 5), shed: runs.Of(1, 2, 3), released: runs.Of(4)}
	holds(t, "somebody is released", s, want)
	again(t, "somebody is released", s, c, want)
}

// P10.1, P10.4: a log that is cut: a record of all ahead of it is safe, the segments are dropped, rising.
func TestCut(t *testing.T) {
	c := single(100, 1, 4)
	s := opened(t, disk.New(1000), c)
	offers(t, s, of(0, 60), 1, true)
	offers(t, s, of(0, 60), 2, true, 1)
	offers(t, s, of(1, 20), 3, true)
	offers(t, s, of(1, 20), 4, true)
	releases(t, s, runs.Of(2), 1)
	// The records 1 to 3 are to spare; 4 put the least that is queued, 6 is of the release.
	last(t, "cut", s, 7, rec(4, 5, 1, 1, 1, 1, 1, 2, 2))
	stands(t, "cut", s, 4, 4, 3)
	want := state{epoch: 1, next: 5, queued: items(of(1, 20), 3, 4), shed: runs.Of(1), released: runs.Of(2)}
	holds(t, "cut", s, want)
	again(t, "cut", s, c, want)
	want.epoch++
	for keep := range 4 {
		x := opened(t, s.Log().Disk().Crash(keep, 5), c)
		if x.Log().First() != uint64(keep+1) {
			t.Fatalf("crash behind %d Drops: the log is from %d on", keep, x.Log().First())
		}
		holds(t, "a crash at the Drops", x, want)
	}
}

// P10.4: once all is released nothing is left but the record of all, and what is read of it goes on.
func TestCutAll(t *testing.T) {
	c := single(100, 1)
	s := opened(t, disk.New(1000), c)
	offers(t, s, of(0, 60), 1, true)
	offers(t, s, of(0, 60), 2, true, 1)
	offers(t, s, of(0, 40), 3, true)
	releases(t, s, runs.Of(2, 3), 2)
	stands(t, "all", s, 6, 1, 5)
	last(t, "all", s, 6, rec(4, 4, 1, 1, 1, 1, 1, 2, 3))
	want := state{epoch: 1, next: 4, shed: runs.Of(1), released: runs.Of(2, 3)}
	holds(t, "all", s, want)
	want.epoch++
	for keep := range 6 {
		holds(t, "a crash", opened(t, s.Log().Disk().Crash(keep, 0), c), want)
	}
	x := opened(t, s.Log().Disk().Crash(5, 0), c)
	stands(t, "opened again", x, 6, 2, 0)
	offers(t, x, of(0, 100), 4, true)
	want.next, want.queued = 5, items(of(0, 100), 4)
	holds(t, "opened again", x, want)
	again(t, "opened again", x, c, want)
	// The record of all and the epoch's are to spare.
	releases(t, x, runs.Of(4), 1)
	stands(t, "all again", x, 10, 1, 4)
	last(t, "all again", x, 10, rec(4, 5, 2, 1, 1, 1, 1, 2, 4))
	want = state{epoch: 2, next: 5, shed: runs.Of(1), released: runs.Set{}.Span(2, 4)}
	holds(t, "all again", x, want)
	again(t, "all again", x, c, want)
}

// P10.4: the log is safe up to the record of all before a segment is dropped: a crash that leaves the Drops undone, or done, leaves the same.
func TestCutIsSafe(t *testing.T) {
	c := single(100, 1)
	s := opened(t, disk.New(1000), c)
	for n := range uint64(4) {
		offers(t, s, of(0, 20), n+1, true)
	}
	releases(t, s, runs.Of(1, 2), 2)
	stands(t, "cut", s, 4, 4, 3)
	want := state{epoch: 2, next: 5, queued: items(of(0, 20), 3, 4), released: runs.Of(1, 2)}
	holds(t, "no Drop", opened(t, s.Log().Disk().Crash(0, 0), c), want)
	holds(t, "all Drops", opened(t, s.Log().Disk().Crash(3, 0), c), want)
}

// P10.4: a record of all for which there isn't room: nothing is dropped, and all else is as it would be.
func TestCutFull(t *testing.T) {
	c := single(100, 1)
	// The segments of the epoch, of three offers and of a release: a head and a record's front each, and their bodies.
	const needs = 5*(12+8) + 2 + 3*(5+2+4) + 4
	s := opened(t, disk.New(needs), c)
	for n := range uint64(3) {
		offers(t, s, of(0, 20), n+1, true)
	}
	releases(t, s, runs.Of(1, 2), 2)
	stands(t, "no room for all", s, 1, 5, 1)
	last(t, "no room for all", s, 5, rec(3, 1, 1, 2))
	holds(t, "no room for all", s, state{epoch: 1, next: 4, queued: items(of(0, 20), 3), released: runs.Of(1, 2)})
	// There is room for an epoch if the release is undone, for nothing else.
	holds(t, "undone", opened(t, s.Log().Disk().Crash(0, 0), c), state{epoch: 2, next: 4, queued: items(of(0, 20), 1, 2, 3)})
	fails(t, "done", s.Log().Disk().Crash(1, 0), c, api.ErrFull)
	releases(t, s, runs.Of(3), 1)
	stands(t, "no room for a release", s, 1, 5, 1)
	holds(t, "no room for a release", s, state{epoch: 1, next: 4, released: runs.Of(1, 2, 3)})
}

// P10.4: if there is room for a record of all, but not for that of the release, that waits, and the log isn't cut.
func TestCutNeedsRelease(t *testing.T) {
	c := single(200, 1)
	// The segments of the epoch, of nine offers and of a release, and a segment for a record of eleven bytes.
	const needs = 12*(12+8) + 2 + 9*(5+2+4) + 10 + 11
	s := opened(t, disk.New(needs), c)
	for n := range uint64(9) {
		offers(t, s, of(0, 20), n+1, true)
	}
	releases(t, s, runs.Of(2, 4, 6, 8), 4)
	stands(t, "every second one", s, 1, 11, 1)
	last(t, "every second one", s, 11, rec(3, 4, 2, 2, 4, 4, 6, 6, 8, 8))
	releases(t, s, runs.Of(1, 3, 5, 7, 9), 5)
	stands(t, "the others", s, 1, 11, 1)
	holds(t, "the others", s, state{epoch: 1, next: 10, released: runs.Set{}.Span(1, 9)})
}

// P10.4: while who is released waits for a record the log isn't cut; then it is.
func TestCutWaits(t *testing.T) {
	c := single(100, 1)
	s := opened(t, disk.New(1000), c)
	for n := range uint64(5) {
		offers(t, s, of(0, 20), n+1, true)
	}
	s.Log().Disk().Full(true)
	releases(t, s, runs.Of(1, 2, 3), 3)
	stands(t, "full", s, 1, 6, 0)
	s.Log().Disk().Full(false)
	offers(t, s, of(0, 20), 6, true)
	stands(t, "told by an offer", s, 1, 7, 0)
	releases(t, s, runs.Of(5), 1)
	// The records 1 to 4 are to spare; 5 put the number 4.
	stands(t, "cut", s, 5, 5, 4)
	last(t, "cut", s, 9, rec(4, 7, 1, 0, 2, 1, 3, 5, 5))
	want := state{epoch: 1, next: 7, queued: items(of(0, 20), 4, 6), released: runs.Of(1, 2, 3, 5)}
	holds(t, "cut", s, want)
	again(t, "cut", s, c, want)
}

// P10.4: of whom the least is queued that was read of the disk, its record counts, behind a crash, too.
func TestCutBehindOpen(t *testing.T) {
	c := single(100, 1)
	d := disk.New(1000)
	s := opened(t, d, c)
	for n := range uint64(4) {
		offers(t, s, of(0, 20), n+1, true)
	}
	x := opened(t, d.Crash(0, 0), c)
	releases(t, x, runs.Of(1, 3), 2)
	// The records 1 and 2 are to spare; 3 put the number 2.
	stands(t, "cut", x, 3, 6, 2)
	last(t, "cut", x, 8, rec(4, 5, 2, 0, 2, 1, 1, 3, 3))
	want := state{epoch: 2, next: 5, queued: items(of(0, 20), 2, 4), released: runs.Of(1, 3)}
	holds(t, "cut", x, want)
	y := opened(t, x.Log().Disk().Crash(2, 0), c)
	want.epoch++
	holds(t, "opened again", y, want)
	// The records 3 and 4 are to spare.
	releases(t, y, runs.Of(2), 1)
	stands(t, "cut again", y, 5, 7, 2)
	want.queued, want.released = want.queued[1:], runs.Of(1, 2, 3)
	holds(t, "cut again", y, want)
	again(t, "cut again", y, c, want)
}

// P10.2, P10.4: a segment without a head, left by a crash, is to spare, too.
func TestCutTorn(t *testing.T) {
	c := single(100, 1)
	s := opened(t, disk.New(1000), c)
	offers(t, s, of(0, 20), 1, true)
	if e := s.Begin(of(0, 20)); e != api.OK {
		t.Fatal(e)
	}
	x := opened(t, s.Log().Disk().Crash(0, 5), c)
	offers(t, x, of(0, 20), 2, true)
	stands(t, "torn", x, 1, 5, 0)
	releases(t, x, runs.Of(2), 1)
	// The epoch's segment is to spare, and the torn one.
	stands(t, "cut", x, 2, 5, 2)
	if got := x.Log().Disk().Segs(); !slices.Equal(got, []uint64{2, 4, 5, 6, 7}) {
		t.Fatalf("segments %v", got)
	}
	want := state{epoch: 2, next: 3, queued: items(of(0, 20), 1), released: runs.Of(2)}
	holds(t, "cut", x, want)
	again(t, "cut", x, c, want)
}

// P10.4: it goes on so without end on a small disk, as long as all is released at last.
func TestCutForever(t *testing.T) {
	c := spill.Conf{Capacity: 200, Weights: []int{1, 1}, Segment: 100}
	d := disk.New(1500)
	s := opened(t, d, c)
	want := state{epoch: 1, next: 1}
	for range 500 {
		n := want.next
		offers(t, s, of(0, 60), n, true)
		offers(t, s, of(1, 60), n+1, true)
		releases(t, s, runs.Of(n, n+1), 2)
		want.next, want.released = n+2, runs.Set{}.Span(1, n+1)
		if n%10 == 1 {
			d = d.Crash(d.Waiting(), 0)
			s = opened(t, d, c)
			want.epoch++
		}
		holds(t, "on and on", s, want)
	}
	if l, e := seglog.Open(d.Copy(), 100); e != api.OK || l.First() < 1500 {
		t.Fatalf("error %d, the log is from %d on", e, l.First())
	}
}
