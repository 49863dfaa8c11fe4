package ledger_test

import (
	"maps"
	"math/rand"
	"slices"
	"testing"

	"sumpter/api"
	"sumpter/disk"
	"sumpter/ledger"
	"sumpter/runs"
	"sumpter/seglog"
	"sumpter/span"
	"sumpter/window"
)

// P16.5: a crash at each byte of a Put that waits: it is there whole, or not at all.
func TestCrashOfPut(t *testing.T) {
	for _, segment := range []int{1, 60, 1 << 20} {
		c := ledger.Conf{Width: 4, Segment: segment}
		l := opened(t, disk.New(1000), c)
		puts(t, l, 1, 1, items(2), 2)
		syncs(t, l)
		puts(t, l, 1, 2, items(5, 4, 99), 5, 4)
		d := l.Log().Disk()
		if d.Waiting() != 1 {
			t.Fatalf("%d wait behind a Put", d.Waiting())
		}
		ahead := state{incarnation: 2, width: 4, windows: map[int]window.Window{1: win(0, 2)}, all: recs(1, items(2)...)}
		for torn := range 12 + 8 + len(came(1, 2, items(5, 4)...)) + 2 {
			holds(t, "ahead of it", opened(t, d.Crash(0, torn), c), ahead.synced())
		}
		behind := state{incarnation: 2, width: 4, windows: map[int]window.Window{1: win(2, 4, 5)}, all: recs(1, items(2, 5, 4)...)}
		holds(t, "behind it", opened(t, d.Crash(1, 0), c), behind.synced())
		holds(t, "behind it", opened(t, d.Crash(9, 9), c), behind.synced())
	}
}

// P16.5: a crash at each byte of a Raise that waits, and of the record that Open writes.
func TestCrashOfRaise(t *testing.T) {
	c := conf(4)
	l := opened(t, disk.New(1000), c)
	raises(t, l, 7, 3, api.OK)
	syncs(t, l)
	raises(t, l, 7, 300, api.OK)
	d := l.Log().Disk()
	for torn := range 16 {
		holds(t, "ahead of it", opened(t, d.Crash(0, torn), c), state{incarnation: 2, width: 4, floors: map[int]uint64{7: 3}})
	}
	holds(t, "behind it", opened(t, d.Crash(1, 0), c), state{incarnation: 2, width: 4, floors: map[int]uint64{7: 300}})
}

// known is what a ledger knows, by who is done of each agent.
type known struct {
	incarnation uint64
	floors      [api.MaxAgents]uint64
	done        [api.MaxAgents]runs.Set
	all         []ledger.Rec
}

// plain is a ledger done plainly, with a log of its own in which stands what must stand in the other one's.
type plain struct {
	known
	conf ledger.Conf
	log  *seglog.Log
	// safe is what was known when all was made safe last.
	safe known
	// told is what the log's records tell, from the first one up to each of them, by their numbers.
	told map[uint64]known
}

// window answers an agent's window.
func (k known) window(agent int, width uint64) window.Window {
	gap, _ := k.done[agent].Gap(1)
	return window.Window{Low: gap - 1, Width: width, Set: k.done[agent].From(gap)}
}

// state answers what the ledger must tell.
func (p *plain) state() state {
	x := state{incarnation: p.incarnation, width: p.conf.Width, floors: map[int]uint64{}, windows: map[int]window.Window{}, safe: map[int]window.Window{}}
	for agent := range api.MaxAgents {
		x.floors[agent] = p.floors[agent]
		x.windows[agent] = p.window(agent, p.conf.Width)
		x.safe[agent] = p.safe.window(agent, p.conf.Width)
	}
	x.all, x.stored = p.all, p.safe.all
	return x
}

// begins answers a plain ledger on a disk, of which that is known; or the error of its incarnation's record.
func begins(t *testing.T, d *disk.Disk, p plain) (*plain, api.Errno) {
	t.Helper()
	l, e := seglog.Open(d, p.conf.Segment)
	if e != api.OK {
		t.Fatalf("a plain log is error %d", e)
	}
	p.log, p.told = l, maps.Clone(p.told)
	p.known = p.told[l.Next()-1]
	next := p.known
	next.incarnation++
	if e := p.write(rec(1, next.incarnation), next); e != api.OK {
		return nil, e
	}
	p.sync()
	return &p, api.OK
}

// write appends a record, behind which all is as next tells.
func (p *plain) write(record []byte, next known) api.Errno {
	n, e := p.log.Append(record)
	if e == api.OK {
		p.told[n], p.known = next, next
	}
	return e
}

// sync is Sync.
func (p *plain) sync() {
	p.log.Sync()
	p.safe = p.known
}

// raise is Raise.
func (p *plain) raise(agent int, epoch uint64) api.Errno {
	if agent < 0 || agent > 15 || epoch >= tooGreat {
		return api.ErrArg
	}
	if epoch <= p.floors[agent] {
		return api.ErrOld
	}
	next := p.known
	next.floors[agent] = epoch
	return p.write(rec(2, uint64(agent), epoch), next)
}

// put is Put.
func (p *plain) put(agent int, base uint64, list []span.Item) ([]uint64, api.Errno) {
	if agent < 0 || agent > 15 || base >= tooGreat {
		return nil, api.ErrArg
	}
	for _, i := range list {
		if i.Number >= tooGreat || i.Class < 0 || i.Class > 7 || len(i.Body) > 4096 {
			return nil, api.ErrArg
		}
	}
	next := p.known
	if base > 0 {
		next.done[agent] = next.done[agent].Span(1, base-1)
	}
	var taken []span.Item
	var numbers []uint64
	for _, i := range list {
		low := next.window(agent, p.conf.Width).Low
		if i.Number > low && i.Number <= low+p.conf.Width && !next.done[agent].Has(i.Number) {
			next.done[agent] = next.done[agent].Add(i.Number)
			taken, numbers = append(taken, i), append(numbers, i.Number)
		}
	}
	next.all = append(slices.Clone(p.all), recs(agent, taken...)...)
	if runs.Same(next.done[agent], p.done[agent]) {
		return nil, api.OK
	}
	if e := p.write(came(agent, base, taken...), next); e != api.OK {
		return nil, e
	}
	return numbers, api.OK
}

// agrees looks whether a ledger is just as it must be: what it tells, what its disk has, what waits there.
func (p *plain) agrees(t *testing.T, what string, l *ledger.Ledger) {
	t.Helper()
	holds(t, what, l, p.state())
	d, own := l.Log().Disk(), p.log.Disk()
	if !disk.Same(d, own) || d.Waiting() != own.Waiting() || !disk.Same(d.Crash(0, 0), own.Crash(0, 0)) {
		t.Fatalf("%s: the disk has %d bytes in segments %v, %d calls wait, want %d, %v, %d",
			what, d.Used(), d.Segs(), d.Waiting(), own.Used(), own.Segs(), own.Waiting())
	}
}

// keeps looks whether a ledger that was opened keeps what was safe.
func (p *plain) keeps(t *testing.T, l *ledger.Ledger) {
	t.Helper()
	if l.Incarnation() <= p.incarnation {
		t.Fatalf("Incarnation %d behind %d", l.Incarnation(), p.incarnation)
	}
	for agent := range api.MaxAgents {
		w := l.Window(agent)
		had := w.Set.Span(1, w.Low)
		if lost := p.safe.done[agent].Less(had); lost.Count() > 0 || l.Floor(agent) < p.safe.floors[agent] {
			t.Fatalf("of agent %d %v were safe, and are lost; floor %d behind %d", agent, lost.Runs(), l.Floor(agent), p.safe.floors[agent])
		}
	}
	stored := l.Stored()
	if len(stored) < len(p.safe.all) || !alike(stored[:len(p.safe.all)], p.safe.all) {
		t.Fatalf("%d are stored, not the %d that were", len(stored), len(p.safe.all))
	}
}

// crash answers what is found behind a crash of both, nil if there is no room for another incarnation.
func (p *plain) crash(t *testing.T, l *ledger.Ledger, keep, torn int) (*ledger.Ledger, *plain) {
	t.Helper()
	d := l.Log().Disk().Crash(keep, torn)
	d.Full(false)
	own := p.log.Disk().Crash(keep, torn)
	own.Full(false)
	q, e := begins(t, own, *p)
	if e != api.OK {
		fails(t, "no room for an incarnation", d, p.conf, e)
		return nil, nil
	}
	x := opened(t, d, p.conf)
	q.agrees(t, "behind a crash", x)
	p.keeps(t, x)
	return x, q
}

// crashes looks at all that a crash may leave, and whether that goes on.
func (p *plain) crashes(t *testing.T, l *ledger.Ledger) {
	t.Helper()
	for keep := range l.Log().Disk().Waiting() + 1 {
		for _, torn := range []int{0, 1, 9, 13, 21, 1 << 20} {
			x, q := p.crash(t, l, keep, torn)
			if x != nil && torn < 2 {
				low := q.window(1, 1).Low
				q.puts(t, x, 1, low+3, items(low+2, low+3))
				q.raises(t, x, 2, q.floors[2]+1)
			}
		}
	}
}

// puts looks whether a Put is as it must be.
func (p *plain) puts(t *testing.T, l *ledger.Ledger, agent int, base uint64, list []span.Item) {
	t.Helper()
	want, f := p.put(agent, base, list)
	got, e := l.Put(agent, base, list)
	if e != f || !slices.Equal(got, want) {
		t.Fatalf("Put(%d, %d, %v) is %v, error %d, want %v, %d", agent, base, list, got, e, want, f)
	}
}

// raises looks whether a Raise is as it must be.
func (p *plain) raises(t *testing.T, l *ledger.Ledger, agent int, epoch uint64) {
	t.Helper()
	raises(t, l, agent, epoch, p.raise(agent, epoch))
}

// some answers an agent, a base and items around that agent's window.
func (p *plain) some(source *rand.Rand) (int, uint64, []span.Item) {
	agent := source.Intn(4) * 5
	low := p.window(agent, 1).Low
	base := low + uint64(source.Intn(4)/2*source.Intn(5))
	var list []span.Item
	for range source.Intn(6) {
		list = append(list, item(low+uint64(source.Intn(int(p.conf.Width)+4)), "0123456789"[:source.Intn(11)]))
	}
	switch source.Intn(30) {
	case 0:
		agent = 16 - 17*source.Intn(2)
	case 1:
		base = tooGreat
	case 2:
		list = append(list, item(tooGreat, ""))
	case 3:
		list = append(list, span.Item{Number: low + 1, Span: span.Span{Class: 8}})
	}
	return agent, base, list
}

// script does calls one behind the other, with crashes of every choice behind each.
func script(t *testing.T, source *rand.Rand, steps int) {
	t.Helper()
	c := ledger.Conf{Width: uint64(1 + source.Intn(8)), Segment: 1 + source.Intn(200)}
	room := 100 + source.Intn(2000)
	p, e := begins(t, disk.New(room), plain{conf: c, told: map[uint64]known{0: {}}})
	if e != api.OK {
		t.Fatalf("there is no room for an incarnation: error %d", e)
	}
	l := opened(t, disk.New(room), c)
	for range steps {
		switch source.Intn(12) {
		case 0:
			agent := source.Intn(20) - 1
			p.raises(t, l, agent, uint64(source.Intn(6)))
		case 1, 2:
			p.sync()
			syncs(t, l)
		case 3:
			full := source.Intn(3) == 0
			l.Log().Disk().Full(full)
			p.log.Disk().Full(full)
		case 4:
			if l, p = p.crash(t, l, source.Intn(4), source.Intn(60)); l == nil {
				return
			}
		default:
			agent, base, list := p.some(source)
			p.puts(t, l, agent, base, list)
		}
		p.agrees(t, "a step", l)
		p.crashes(t, l)
	}
}

// P16.1 to P16.5, P2, P5, P7: any calls, on disks that are full at times, and crashes of every choice behind each.
func TestRandomCalls(t *testing.T) {
	source := rand.New(rand.NewSource(16))
	for range 60 {
		script(t, source, 40)
	}
}
