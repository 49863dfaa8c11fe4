package receiver_test

import (
	"math/rand"
	"slices"
	"strconv"
	"testing"

	"sumpter/api"
	"sumpter/disk"
	"sumpter/frame"
	"sumpter/ledger"
	"sumpter/receiver"
	"sumpter/runs"
	"sumpter/span"
)

// trial is a receiver that hears frames of all sorts, and whose disk crashes; beside it is a ledger to which is done by hand what must be done.
type trial struct {
	both
	conf   ledger.Conf
	source *rand.Rand
	// told are the frames that were answered, of whatever incarnation.
	told []frame.Frame
	// stored is what was stored, at the last look.
	stored []ledger.Rec
}

// kept is what a span's body must be: no two of them are alike.
func kept(id span.ID) span.Span {
	return span.Span{Class: int(id.Number % 8), Body: []byte(strconv.Itoa(id.Agent) + ":" + strconv.FormatUint(id.Number, 10))}
}

// any answers a frame near to what the ledger knows.
func (x *trial) any() frame.Frame {
	agent := x.source.Intn(4) * 5
	low := x.hand.Window(agent).Low
	f := frame.Frame{Kind: frame.Hello, Agent: agent, Epoch: x.hand.Floor(agent), Base: low + 1}
	if x.source.Intn(3) == 0 {
		f.Base = low + uint64(x.source.Intn(6))
	}
	switch x.source.Intn(8) {
	case 0:
		f.Epoch += uint64(x.source.Intn(3))
	case 1:
		f.Epoch -= uint64(x.source.Intn(3))
	}
	if x.source.Intn(5) > 0 {
		f.Kind = frame.Batch
		f.Incarnation = x.hand.Incarnation() + uint64(x.source.Intn(8)/7)
		f.Items = x.items(agent, f.Base)
	}
	switch x.source.Intn(40) {
	case 0:
		f.Agent = 16 - 17*x.source.Intn(2)
	case 1:
		f.Kind = byte(x.source.Intn(6))
	case 2:
		f.Base, f.Items = uint64(tooGreat+x.source.Intn(2)), nil
	case 3:
		f.Epoch = uint64(tooGreat + x.source.Intn(2))
	}
	return f
}

// items answers items of that agent from the base on.
func (x *trial) items(agent int, base uint64) []span.Item {
	var l []span.Item
	for n := base; len(l) < 5 && x.source.Intn(12) > 0; n++ {
		if x.source.Intn(2) == 0 {
			l = append(l, span.Item{Number: n, Span: kept(span.ID{Agent: agent, Number: n})})
		}
	}
	return l
}

// do does by hand what the document says of a frame, and tells whether it says something.
func (x *trial) do(f frame.Frame) bool {
	if !f.Right() {
		return false
	}
	floor := x.hand.Floor(f.Agent)
	if f.Kind == frame.Hello && f.Epoch >= floor {
		if f.Epoch > floor && x.hand.Raise(f.Agent, f.Epoch) != api.OK {
			return false
		}
		x.owed[f.Agent] = frame.Welcome
		x.hand.Put(f.Agent, f.Base, nil)
		return true
	}
	if f.Kind == frame.Batch && f.Epoch == floor && f.Incarnation <= x.hand.Incarnation() {
		if _, e := x.hand.Put(f.Agent, f.Base, f.Items); e != api.OK {
			return false
		}
		if x.owed[f.Agent] != frame.Welcome {
			x.owed[f.Agent] = frame.Ack
		}
		return true
	}
	return false
}

// receives looks whether a frame is done as by hand.
func (x *trial) receives(t *testing.T) {
	t.Helper()
	f := x.any()
	want := x.do(f)
	if got := x.r.Receive(f); got != want {
		t.Fatalf("Receive of %v is %v, want %v", f, got, want)
	}
	x.agrees(t, "received")
}

// answers looks whether Tick answers what is owed, from what is safe by hand.
func (x *trial) answers(t *testing.T) {
	t.Helper()
	var want []frame.Frame
	if slices.Max(x.owed[:]) > 0 {
		x.hand.Sync()
	}
	for agent, kind := range x.owed {
		if kind > 0 {
			w := x.hand.Safe(agent)
			l := w.Set.Runs()
			want = append(want, frame.Frame{Kind: kind, Agent: agent, Epoch: x.hand.Floor(agent), Incarnation: x.hand.Incarnation(), Cum: w.Low, Limit: w.Low + x.conf.Width, Runs: l[:min(len(l), 32)]})
		}
	}
	got := x.r.Tick()
	same(t, got, want...)
	x.owed = [api.MaxAgents]byte{}
	x.agrees(t, "ticked")
	x.told = append(x.told, got...)
}

// P3, P4, P5, P7: found looks whether a ledger that a crash leaves has all that was told to any agent, and all that was stored, each span once.
func (x *trial) found(t *testing.T, l *ledger.Ledger) {
	t.Helper()
	for _, f := range x.told {
		w := l.Safe(f.Agent)
		acked := runs.Of().Span(1, f.Cum)
		for _, r := range f.Runs {
			acked = acked.Span(r.From, r.To)
		}
		if lost := acked.Less(w.Set.Span(1, w.Low)); f.Cum > 0 && lost.Count() > 0 {
			t.Fatalf("%v were told, and are lost: %v", f, lost.Runs())
		}
		if l.Floor(f.Agent) < f.Epoch || l.Incarnation() <= f.Incarnation || w.Limit() < f.Limit || !w.Right() {
			t.Fatalf("%v was told; floor %d, incarnation %d, window %v", f, l.Floor(f.Agent), l.Incarnation(), w)
		}
	}
	stored := l.Stored()
	seen := map[span.ID]int{}
	for i, rec := range stored {
		if seen[rec.ID]++; seen[rec.ID] > 1 || !span.Same(rec.Span, kept(rec.ID)) {
			t.Fatalf("%v is stored %d times, as %v", rec.ID, seen[rec.ID], rec.Span)
		}
		if i < len(x.stored) && rec.ID != x.stored[i].ID {
			t.Fatalf("%v is stored where %v was", rec.ID, x.stored[i].ID)
		}
	}
	if len(stored) < len(x.stored) {
		t.Fatalf("%d are stored, %d were", len(stored), len(x.stored))
	}
}

// crashes crashes both disks, and goes on with what is found; false if there is no room for that.
func (x *trial) crashes(t *testing.T) bool {
	t.Helper()
	x.stored = x.r.Ledger().Stored()
	keep, torn := x.source.Intn(x.hand.Log().Disk().Waiting()+2), x.source.Intn(30)
	d, own := x.r.Ledger().Log().Disk().Crash(keep, torn), x.hand.Log().Disk().Crash(keep, torn)
	d.Full(false)
	own.Full(false)
	l, e := ledger.Open(d, x.conf)
	if e != api.OK {
		return false
	}
	x.found(t, l)
	x.both = both{r: receiver.New(l), hand: opened(t, own, x.conf)}
	x.agrees(t, "behind a crash")
	return true
}

// P17.1 to P17.3: a receiver does what is done by hand, whatever it hears, and whenever its disk crashes.
func TestRandom(t *testing.T) {
	source := rand.New(rand.NewSource(17))
	answered, stored := 0, 0
	for range 300 {
		c := ledger.Conf{Width: uint64(source.Intn(9) + 1), Segment: source.Intn(200) + 1}
		room := source.Intn(4000) + 100
		x := trial{conf: c, source: source}
		x.both = both{r: receiver.New(opened(t, disk.New(room), c)), hand: opened(t, disk.New(room), c)}
		for i := range 200 {
			switch source.Intn(30) {
			case 0, 1, 2, 3, 4:
				x.answers(t)
			case 5:
				x.full(i%3 == 0)
			case 6:
				if !x.crashes(t) {
					x.full(false)
				}
			default:
				x.receives(t)
			}
		}
		answered += len(x.told)
		stored += len(x.r.Ledger().Stored())
	}
	if answered < 2000 || stored < 2000 {
		t.Fatalf("only %d frames were answered, %d spans stored", answered, stored)
	}
}
