package sender_test

import (
	"math/rand"
	"slices"
	"testing"

	"sumpter/frame"
	"sumpter/pause"
	"sumpter/runs"
	"sumpter/sender"
)

// plain is a sender done plainly.
type plain struct {
	conf               sender.Conf
	open               bool
	incarnation, limit uint64
	at                 int64
	tries              int
	// groups are what is on its way, in the order in which it was sent first.
	groups []group
}

// group is what was sent together, and when it is sent again.
type group struct {
	numbers []uint64
	at      int64
	tries   int
}

// wait is layer 11's Wait.
func (p *plain) wait(tries int) int64 {
	wait := p.conf.Pause.First
	for range tries {
		wait = min(2*wait, p.conf.Pause.Most)
	}
	return wait
}

// takes takes off their way all of whom that is told.
func (p *plain) takes(gone func(n uint64) bool) {
	var left []group
	for _, g := range p.groups {
		g.numbers = slices.DeleteFunc(g.numbers, gone)
		if len(g.numbers) > 0 {
			left = append(left, g)
		}
	}
	p.groups = left
}

// flight answers all that are on their way.
func (p *plain) flight() []uint64 {
	var l []uint64
	for _, g := range p.groups {
		l = append(l, g.numbers...)
	}
	return l
}

// asks answers a Hello, or a probe.
func (p *plain) asks(now int64, kind byte) []sender.Out {
	if p.at > now {
		return nil
	}
	p.at = now + p.wait(p.tries)
	p.tries++
	return []sender.Out{{Kind: kind}}
}

// due answers what is sent again.
func (p *plain) due(now int64) []sender.Out {
	var at []int
	for i, g := range p.groups {
		if g.at <= now {
			at = append(at, i)
		}
	}
	slices.SortStableFunc(at, func(i, j int) int { return int(p.groups[i].at - p.groups[j].at) })
	var out []sender.Out
	for _, i := range at {
		g := &p.groups[i]
		out = append(out, batch(slices.Clone(g.numbers)...))
		g.at = now + p.wait(g.tries)
		g.tries++
	}
	return out
}

// tick is Tick.
func (p *plain) tick(now int64, queued []sender.Ref) []sender.Out {
	p.takes(func(n uint64) bool {
		return !slices.ContainsFunc(queued, func(r sender.Ref) bool { return r.Number == n })
	})
	if !p.open {
		return p.asks(now, frame.Hello)
	}
	out := p.due(now)
	bytes := sender.Most + 1
	var last *group
	for _, r := range queued {
		all := p.flight()
		if r.Number > p.limit || slices.Contains(all, r.Number) || len(all) == p.conf.Flight {
			continue
		}
		bytes += r.Size
		if last == nil || bytes > sender.Most || len(last.numbers) == p.conf.Batch {
			p.groups = append(p.groups, group{at: now + p.wait(0), tries: 1})
			last = &p.groups[len(p.groups)-1]
			out = append(out, batch())
			bytes = r.Size
		}
		last.numbers = append(last.numbers, r.Number)
		out[len(out)-1].Numbers = append(out[len(out)-1].Numbers, r.Number)
	}
	if len(p.groups) > 0 || len(queued) == 0 {
		p.at, p.tries = 0, 0
		return out
	}
	return append(out, p.asks(now, frame.Batch)...)
}

// receive is Receive.
func (p *plain) receive(f frame.Frame) (runs.Set, bool) {
	if f.Kind != frame.Welcome && f.Kind != frame.Ack || f.Epoch != epoch || f.Incarnation < p.incarnation {
		return runs.Set{}, false
	}
	if f.Kind == frame.Ack && !p.open {
		return runs.Set{}, false
	}
	acked := span(0, f.Cum)
	for _, r := range f.Runs {
		acked = acked.Span(r.From, r.To)
	}
	p.takes(acked.Has)
	switch {
	case f.Kind == frame.Welcome && (!p.open || f.Incarnation > p.incarnation):
		*p = plain{conf: p.conf, open: true, incarnation: f.Incarnation, limit: f.Limit}
	case f.Kind == frame.Ack && f.Incarnation > p.incarnation:
		*p = plain{conf: p.conf, incarnation: f.Incarnation}
	case f.Limit > p.limit:
		p.limit = f.Limit
	}
	return acked, true
}

// state answers what the sender must tell.
func (p *plain) state() state {
	x := state{open: p.open, incarnation: p.incarnation, limit: p.limit, flight: runs.Of(p.flight()...), next: -1}
	for _, g := range p.groups {
		if x.next < 0 || g.at < x.next {
			x.next = g.at
		}
	}
	if (!p.open || p.tries > 0) && (x.next < 0 || p.at < x.next) {
		x.next = p.at
	}
	return x
}

// world is what a script goes on with: what is queued, and what comes next.
type world struct {
	source *rand.Rand
	queued []sender.Ref
	next   uint64
	now    int64
	big    bool
}

// changes lets some of the queued go, and others come.
func (w *world) changes() {
	for range w.source.Intn(4) {
		size := 16 + w.source.Intn(100)
		if w.big {
			size = []int{100, 4112, 30000, sender.Most, sender.Most + 1}[w.source.Intn(5)]
		}
		w.next += uint64(1 + w.source.Intn(8)/7)
		w.queued = append(w.queued, sender.Ref{Number: w.next, Size: size})
	}
	for range w.source.Intn(8) / 6 {
		if len(w.queued) > 0 {
			at := w.source.Intn(len(w.queued))
			w.queued = slices.Delete(w.queued, at, at+1)
		}
	}
}

// frame answers one of any kind, mostly such a one as a collector would send.
func (w *world) frame(p *plain) frame.Frame {
	f := frame.Frame{Kind: frame.Ack, Epoch: epoch, Incarnation: p.incarnation}
	if w.source.Intn(4) == 0 || !p.open && w.source.Intn(3) > 0 {
		f.Kind = frame.Welcome
	}
	if len(w.queued) > 0 {
		f.Cum = w.queued[0].Number - 1 + uint64(w.source.Intn(3))
	}
	for at := f.Cum + 2; w.source.Intn(2) == 0; at += uint64(2 + w.source.Intn(4)) {
		f.Runs = append(f.Runs, run(at, at+uint64(w.source.Intn(2))))
	}
	f.Limit = f.Cum + uint64(w.source.Intn(12))
	switch w.source.Intn(16) {
	case 0:
		f.Kind = byte(w.source.Intn(6))
	case 1:
		f.Epoch += uint64(w.source.Intn(3)) - 1
	case 2:
		f.Incarnation--
	case 3, 4:
		f.Incarnation++
	}
	return f
}

// script does calls one behind the other, and looks at all that is told behind each.
func script(t *testing.T, source *rand.Rand, steps int) {
	t.Helper()
	first := int64(1 + source.Intn(3))
	c := sender.Conf{Pause: pause.Params{First: first, Most: first + int64(source.Intn(20))}, Batch: 1 + source.Intn(5), Flight: 1 + source.Intn(12)}
	s, p := made(t, c), &plain{conf: c}
	w := &world{source: source, big: source.Intn(3) == 0}
	for range steps {
		w.changes()
		w.now += int64(source.Intn(4))
		if source.Intn(3) > 0 {
			want := p.tick(w.now, w.queued)
			sends(t, s, w.now, w.queued, want...)
		} else {
			f := w.frame(p)
			want, ok := p.receive(f)
			got, k := s.Receive(w.now, f)
			if k != ok || !runs.Same(got, want) {
				t.Fatalf("Receive of %v is %v, %v, want %v, %v", f, got.Runs(), k, want.Runs(), ok)
			}
			if source.Intn(3) > 0 {
				w.queued = slices.DeleteFunc(w.queued, func(r sender.Ref) bool { return want.Has(r.Number) })
			}
		}
		p.state().held(t, "a step", s)
	}
}

// P14.1 to P14.3, P2, P7: any calls, held against a sender that is done plainly.
func TestRandomCalls(t *testing.T) {
	source := rand.New(rand.NewSource(14))
	for range 1500 {
		script(t, source, 120)
	}
}
