package spill_test

import (
	"maps"
	"math/rand"
	"slices"
	"testing"

	"sumpter/api"
	"sumpter/disk"
	"sumpter/queue"
	"sumpter/runs"
	"sumpter/seglog"
	"sumpter/span"
	"sumpter/spill"
)

// P10.3, P10.6: Begin, and a crash at each of its bytes: the offer is there whole, or not at all.
func TestBegin(t *testing.T) {
	for _, segment := range []int{1, 200, 1 << 20} {
		c := spill.Conf{Capacity: 100, Weights: []int{1, 1}, Segment: segment}
		s := opened(t, disk.New(1000), c)
		for n := range uint64(4) {
			offers(t, s, of(0, 20), n+1, true)
		}
		s.Log().Disk().Full(true)
		releases(t, s, runs.Of(2), 1)
		s.Log().Disk().Full(false)
		number := s.Log().Next()
		if e := s.Begin(of(1, 45)); e != api.OK {
			t.Fatalf("Begin is error %d", e)
		}
		record := put(of(1, 45), 5, 1, 2, 2, 1, 1)
		last(t, "begun", s, number, record)
		d := s.Log().Disk()
		if d.Waiting() != 1 {
			t.Fatalf("%d wait behind Begin", d.Waiting())
		}
		ahead := state{epoch: 2, next: 5, queued: items(of(0, 20), 1, 2, 3, 4)}
		for torn := range 12 + 8 + len(record) + 2 {
			holds(t, "ahead of it", opened(t, d.Crash(0, torn), c), ahead)
		}
		behind := state{epoch: 2, next: 6, queued: append(items(of(0, 20), 3, 4), item(5, of(1, 45))), shed: runs.Of(1), released: runs.Of(2)}
		holds(t, "behind it", opened(t, d.Crash(1, 0), c), behind)
		holds(t, "behind it", opened(t, d.Crash(9, 9), c), behind)
	}
}

// P10.3, P10.6: Begin of one that is shed itself.
func TestBeginItself(t *testing.T) {
	c := conf(100, 1, 4)
	s := opened(t, disk.New(1000), c)
	offers(t, s, of(1, 60), 1, true)
	if e := s.Begin(of(0, 50)); e != api.OK {
		t.Fatalf("Begin is error %d", e)
	}
	last(t, "begun", s, 3, rec(2, 2, 0, 0, 0))
	d := s.Log().Disk()
	holds(t, "ahead of it", opened(t, d.Crash(0, 99), c), state{epoch: 2, next: 2, queued: items(of(1, 60), 1)})
	holds(t, "behind it", opened(t, d.Crash(1, 0), c), state{epoch: 2, next: 3, queued: items(of(1, 60), 1), shed: runs.Of(2)})
}

// plain is a spill done plainly, with a log of its own in which stands what must stand in the other one's.
type plain struct {
	known
	conf   spill.Conf
	log    *seglog.Log
	untold runs.Set
	// told is what the log's records tell, from the first one up to each of them, by their numbers.
	told map[uint64]known
	// kept and gone are who was Kept, and who was shed, by all replies.
	kept, gone runs.Set
}

// known is what a spill tells, and with which records the queued ones were put.
type known struct {
	state
	at map[uint64]uint64
}

// without answers what is known once those in the set went out of the queue.
func (k known) without(set runs.Set) known {
	k.at = maps.Clone(k.at)
	k.queued = slices.Clone(k.queued)
	k.queued = slices.DeleteFunc(k.queued, func(i span.Item) bool { return set.Has(i.Number) })
	return k
}

// begins answers a plain spill on a disk, of which that is known; or the error of its epoch's record.
func begins(t *testing.T, d *disk.Disk, p plain) (*plain, api.Errno) {
	t.Helper()
	l, e := seglog.Open(d, p.conf.Segment)
	if e != api.OK {
		t.Fatalf("a plain log is error %d", e)
	}
	p.log, p.untold, p.told = l, runs.Set{}, maps.Clone(p.told)
	p.known = p.told[l.Next()-1]
	next := p.known
	next.epoch++
	return &p, p.write(rec(1, next.epoch), next, true)
}

// write appends a record, behind which all is as next tells.
func (p *plain) write(record []byte, next known, sync bool) api.Errno {
	n, e := p.log.Append(record)
	if e != api.OK {
		return e
	}
	p.told[n] = next
	p.known = next
	if sync {
		p.log.Sync()
	}
	return api.OK
}

// numbers answers how many runs a set has, and these, as numbers.
func numbers(set runs.Set) []uint64 {
	l := []uint64{uint64(len(set.Runs()))}
	for _, r := range set.Runs() {
		l = append(l, r.From, r.To)
	}
	return l
}

// victims is layer 9's Victims.
func (p *plain) victims(x span.Span) ([]uint64, bool, api.Errno) {
	q, _ := queue.New(p.conf.Capacity, p.conf.Weights)
	for _, i := range p.queued {
		q.Put(i.Number, i.Span)
	}
	return q.Victims(x)
}

// offer is Offer; without sync it is Begin, of which a crash must come behind.
func (p *plain) offer(x span.Span, sync bool) (spill.Reply, api.Errno) {
	victims, itself, e := p.victims(x)
	if e != api.OK {
		return spill.Reply{}, e
	}
	ahead := append([]uint64{p.next}, numbers(p.untold)...)
	ahead = append(append(ahead, uint64(len(victims))), victims...)
	next := p.known.without(runs.Of(victims...))
	next.shed = next.shed.Union(runs.Of(victims...))
	next.next++
	record := append(rec(2, ahead...), 0)
	if itself {
		next.shed = next.shed.Add(p.next)
	} else {
		record = put(x, ahead...)
		next.queued = append(next.queued, item(p.next, x))
		next.at[p.next] = p.log.Next()
	}
	reply := spill.Reply{Number: p.next, Kept: !itself, Shed: victims}
	if e := p.write(record, next, sync); e != api.OK {
		return spill.Reply{}, e
	}
	p.untold = runs.Set{}
	if sync {
		p.gone = p.gone.Union(runs.Of(victims...))
		if itself {
			p.gone = p.gone.Add(reply.Number)
		} else {
			p.kept = p.kept.Add(reply.Number)
		}
	}
	return reply, api.OK
}

// release is Release.
func (p *plain) release(set runs.Set) int {
	gone := runs.Set{}
	for _, i := range p.queued {
		if set.Has(i.Number) {
			gone = gone.Add(i.Number)
		}
	}
	if gone.Count() == 0 {
		return 0
	}
	p.known = p.without(gone)
	p.released = p.released.Union(gone)
	p.untold = p.untold.Union(gone)
	if p.write(rec(3, numbers(p.untold)...), p.known, false) != api.OK {
		return int(gone.Count())
	}
	p.untold = runs.Set{}
	needed := p.log.Next()
	if len(p.queued) > 0 {
		needed = p.at[p.queued[0].Number]
	}
	if p.log.Spare(needed) >= 2 {
		all := append([]uint64{p.next, p.epoch}, numbers(p.shed)...)
		if p.write(rec(4, append(all, numbers(p.released)...)...), p.known, true) == api.OK {
			p.log.Trim(needed)
		}
	}
	return int(gone.Count())
}

// agrees looks whether a spill is just as it must be: what it tells, what its disk has, what waits there.
func (p *plain) agrees(t *testing.T, what string, s *spill.Spill) {
	t.Helper()
	holds(t, what, s, p.state)
	d, own := s.Log().Disk(), p.log.Disk()
	if !disk.Same(d, own) || d.Waiting() != own.Waiting() || d.Used() != own.Used() {
		t.Fatalf("%s: the disk has %d bytes in segments %v, %d calls wait, want %d, %v, %d",
			what, d.Used(), d.Segs(), d.Waiting(), own.Used(), own.Segs(), own.Waiting())
	}
	if !disk.Same(d.Crash(0, 0), own.Crash(0, 0)) {
		t.Fatalf("%s: another part of the disk is safe", what)
	}
}

// keeps looks whether a spill that was opened keeps what was promised of those ahead of it.
func (p *plain) keeps(t *testing.T, s *spill.Spill) {
	t.Helper()
	if lost := p.kept.Less(s.Queued()).Less(s.Shed()).Less(s.Released()); lost.Count() > 0 {
		t.Fatalf("%v were kept, and are lost", lost.Runs())
	}
	if lost := p.gone.Less(s.Shed()); lost.Count() > 0 {
		t.Fatalf("%v were shed, and aren't", lost.Runs())
	}
	if s.Bytes() > p.conf.Capacity || s.Epoch() <= p.epoch {
		t.Fatalf("Bytes %d of %d, Epoch %d behind %d", s.Bytes(), p.conf.Capacity, s.Epoch(), p.epoch)
	}
}

// crash answers what is found behind a crash of both, nil if there is no room for another epoch.
func (p *plain) crash(t *testing.T, s *spill.Spill, keep, torn int) (*spill.Spill, *plain) {
	t.Helper()
	d := s.Log().Disk().Crash(keep, torn)
	d.Full(false)
	own := p.log.Disk().Crash(keep, torn)
	own.Full(false)
	q, e := begins(t, own, *p)
	if e != api.OK {
		fails(t, "no room for an epoch", d, p.conf, e)
		return nil, nil
	}
	x := opened(t, d, p.conf)
	q.agrees(t, "behind a crash", x)
	p.keeps(t, x)
	return x, q
}

// crashes looks at all that a crash may leave, and whether that goes on.
func (p *plain) crashes(t *testing.T, s *spill.Spill) {
	t.Helper()
	for keep := range s.Log().Disk().Waiting() + 1 {
		for _, torn := range []int{0, 1, 9, 13, 21, 1 << 20} {
			x, q := p.crash(t, s, keep, torn)
			if x != nil && torn < 2 {
				q.offers(t, x, of(0, 20))
				q.releases(t, x, runs.Set{}.Span(0, q.next-2))
			}
		}
	}
}

// offers looks whether an Offer is as it must be.
func (p *plain) offers(t *testing.T, s *spill.Spill, x span.Span) {
	t.Helper()
	want, f := p.offer(x, true)
	got, e := s.Offer(x)
	if e != f || got.Number != want.Number || got.Kept != want.Kept || !slices.Equal(got.Shed, want.Shed) {
		t.Fatalf("Offer is %v, error %d, want %v, %d", got, e, want, f)
	}
	p.agrees(t, "an offer", s)
}

// releases looks whether a Release is as it must be.
func (p *plain) releases(t *testing.T, s *spill.Spill, set runs.Set) {
	t.Helper()
	want := p.release(set)
	if got := s.Release(set); got != want {
		t.Fatalf("Release of %v is %d, want %d", set.Runs(), got, want)
	}
	p.agrees(t, "a release", s)
}

// halts looks at all that a crash leaves behind a Begin, and answers one of these.
func (p *plain) halts(t *testing.T, s *spill.Spill, x span.Span, keep, torn int) (*spill.Spill, *plain) {
	t.Helper()
	ahead := p.known
	_, want := p.offer(x, false)
	if e := s.Begin(x); e != want {
		t.Fatalf("Begin is error %d, want %d", e, want)
	}
	if want != api.OK && !slices.Equal(s.Numbers(), keys(ahead.queued)) {
		t.Fatalf("Begin with error %d changed something", want)
	}
	p.crashes(t, s)
	return p.crash(t, s, keep, torn)
}

// keys answers the items' numbers.
func keys(l []span.Item) []uint64 {
	var numbers []uint64
	for _, i := range l {
		numbers = append(numbers, i.Number)
	}
	return numbers
}

// some answers a set of a few numbers around the least that is queued.
func some(source *rand.Rand, base uint64) runs.Set {
	set := runs.Set{}
	for range 1 + source.Intn(4) {
		from := base + uint64(source.Intn(8))
		set = set.Span(from, from+uint64(source.Intn(3)))
	}
	return set.Less(runs.Of(0))
}

// script does calls one behind the other, with crashes of every choice behind each.
func script(t *testing.T, source *rand.Rand, steps int) {
	t.Helper()
	c := spill.Conf{Capacity: 60 + source.Intn(200), Segment: 1 + source.Intn(150)}
	for range 1 + source.Intn(4) {
		c.Weights = append(c.Weights, 1+source.Intn(9))
	}
	room := 300 + source.Intn(2000)
	zero := known{state: state{next: 1}, at: map[uint64]uint64{}}
	p, e := begins(t, disk.New(room), plain{conf: c, told: map[uint64]known{0: zero}})
	if e != api.OK {
		t.Fatalf("there is no room for an epoch: error %d", e)
	}
	s := opened(t, disk.New(room), c)
	for range steps {
		x := of(source.Intn(len(c.Weights)+1), 16+source.Intn(80))
		keep, torn := source.Intn(4), source.Intn(40)
		switch source.Intn(10) {
		case 0, 1, 2, 3:
			p.offers(t, s, x)
		case 4, 5:
			p.releases(t, s, some(source, s.Base()))
		case 6:
			p.releases(t, s, runs.Set{}.Span(0, s.Base()+uint64(source.Intn(4))))
		case 7:
			full := source.Intn(2) == 0
			s.Log().Disk().Full(full)
			p.log.Disk().Full(full)
		case 8:
			s, p = p.halts(t, s, x, keep, torn)
		case 9:
			s, p = p.crash(t, s, keep, torn)
		}
		if s == nil {
			return
		}
		p.agrees(t, "a step", s)
		p.crashes(t, s)
	}
}

// P10.1 to P10.6, P2, P5, P7: any calls, on disks that are full at times, and crashes of every choice behind each.
func TestRandomCalls(t *testing.T) {
	source := rand.New(rand.NewSource(10))
	for range 150 {
		script(t, source, 40)
	}
}
