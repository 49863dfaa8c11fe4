package sender_test

import (
	"math"
	"slices"
	"testing"

	"sumpter/api"
	"sumpter/frame"
	"sumpter/pause"
	"sumpter/runs"
	"sumpter/sender"
)

const (
	// most is the greatest number, far the greatest now.
	most = math.MaxUint64
	far  = 1 << 60
	// epoch is that of all senders that made answers.
	epoch = 4
)

// conf answers a conf whose pauses are 2, 4, 8, 10, 10 ..
func conf(batch, flight int) sender.Conf {
	return sender.Conf{Pause: pause.Params{First: 2, Most: 10}, Batch: batch, Flight: flight}
}

// made answers a sender that greets.
func made(t *testing.T, c sender.Conf) *sender.Sender {
	t.Helper()
	s, e := sender.New(c, epoch)
	if e != api.OK || s == nil {
		t.Fatalf("New(%v): %v, error %d", c, s, e)
	}
	return s
}

// greeted answers a sender that is open, of incarnation 1 and this limit.
func greeted(t *testing.T, c sender.Conf, limit uint64) *sender.Sender {
	t.Helper()
	s := made(t, c)
	hears(t, s, welcome(1, 0, limit), runs.Of(0))
	return s
}

// welcome answers a Welcome of the senders' epoch.
func welcome(incarnation, cum, limit uint64, l ...runs.Run) frame.Frame {
	return frame.Frame{Kind: frame.Welcome, Epoch: epoch, Incarnation: incarnation, Cum: cum, Limit: limit, Runs: l}
}

// ack answers an Ack of the senders' epoch.
func ack(incarnation, cum, limit uint64, l ...runs.Run) frame.Frame {
	f := welcome(incarnation, cum, limit, l...)
	f.Kind = frame.Ack
	return f
}

// run answers a run.
func run(from, to uint64) runs.Run { return runs.Run{From: from, To: to} }

// span answers the set of all numbers from one up to another.
func span(from, to uint64) runs.Set { return runs.Set{}.Span(from, to) }

// refs answers all numbers from one up to another, each of 20 bytes.
func refs(from, to uint64) []sender.Ref {
	var l []sender.Ref
	for n := from; n <= to; n++ {
		l = append(l, sender.Ref{Number: n, Size: 20})
	}
	return l
}

// sized answers numbers from 1 on, of these sizes.
func sized(sizes ...int) []sender.Ref {
	var l []sender.Ref
	for i, size := range sizes {
		l = append(l, sender.Ref{Number: uint64(i) + 1, Size: size})
	}
	return l
}

// hello and probe are what is sent without numbers; batch is what is sent with some.
func hello() sender.Out { return sender.Out{Kind: frame.Hello} }

func probe() sender.Out { return sender.Out{Kind: frame.Batch} }

func batch(l ...uint64) sender.Out { return sender.Out{Kind: frame.Batch, Numbers: l} }

// same tells whether two are alike.
func same(a, b sender.Out) bool { return a.Kind == b.Kind && slices.Equal(a.Numbers, b.Numbers) }

// sends looks whether just these are sent, in this order.
func sends(t *testing.T, s *sender.Sender, now int64, queued []sender.Ref, want ...sender.Out) {
	t.Helper()
	if got := s.Tick(now, queued); !slices.EqualFunc(got, want, same) {
		t.Fatalf("Tick(%d) is %v, want %v", now, got, want)
	}
}

// hears looks whether a frame acks just these.
func hears(t *testing.T, s *sender.Sender, f frame.Frame, want runs.Set) {
	t.Helper()
	if got, ok := s.Receive(0, f); !ok || !runs.Same(got, want) {
		t.Fatalf("Receive of %v is %v, %v, want %v", f, got.Runs(), ok, want.Runs())
	}
}

// ignores looks whether a frame says nothing, and changes nothing.
func ignores(t *testing.T, what string, s *sender.Sender, f frame.Frame) {
	t.Helper()
	before := told(s)
	if got, ok := s.Receive(0, f); ok || got.Count() != 0 {
		t.Fatalf("%s: Receive of %v is %v, %v", what, f, got.Runs(), ok)
	}
	before.held(t, what, s)
}

// state is all that a sender tells; next is -1 if there is none.
type state struct {
	open               bool
	incarnation, limit uint64
	flight             runs.Set
	next               int64
}

// told answers what a sender tells.
func told(s *sender.Sender) state {
	at, ok := s.Next()
	if !ok {
		at--
	}
	return state{open: s.Open(), incarnation: s.Incarnation(), limit: s.Limit(), flight: s.Flight(), next: at}
}

// held looks whether a sender tells just that.
func (x state) held(t *testing.T, what string, s *sender.Sender) {
	t.Helper()
	got := told(s)
	if got.open != x.open || got.incarnation != x.incarnation || got.limit != x.limit || got.next != x.next {
		t.Fatalf("%s: Open %v, Incarnation %d, Limit %d, Next %d, want %v, %d, %d, %d",
			what, got.open, got.incarnation, got.limit, got.next, x.open, x.incarnation, x.limit, x.next)
	}
	if !runs.Same(got.flight, x.flight) || s.Epoch() != epoch {
		t.Fatalf("%s: Flight is %v, Epoch %d, want %v", what, got.flight.Runs(), s.Epoch(), x.flight.Runs())
	}
}

// P14.1 to P14.3: the chapter's example.
func TestExample(t *testing.T) {
	s, e := sender.New(conf(64, 64), 1)
	if e != api.OK {
		t.Fatalf("New is error %d", e)
	}
	sends(t, s, 0, nil, hello())
	if _, ok := s.Receive(0, frame.Frame{Kind: frame.Welcome, Epoch: 1, Incarnation: 1, Limit: 2}); !ok || !s.Open() {
		t.Fatalf("Receive of a Welcome is %v, Open is %v", ok, s.Open())
	}
	sends(t, s, 1, refs(1, 3), batch(1, 2))
}

// P14.1: which confs are Right; of others, and of epoch 0, there is no sender.
func TestRight(t *testing.T) {
	good := pause.Params{First: 2, Most: 10}
	for _, x := range []struct {
		c    sender.Conf
		want bool
	}{
		{sender.Conf{Pause: good, Batch: 1, Flight: 1}, true},
		{sender.Conf{Pause: good, Batch: 64, Flight: 1024}, true},
		{sender.Conf{Pause: good, Batch: 64, Flight: 1}, true},
		{sender.Conf{Pause: pause.Params{First: 1, Most: 1}, Batch: 1, Flight: 1}, true},
		{sender.Conf{Pause: pause.Params{First: 1, Most: 1 << 40}, Batch: 2, Flight: 2}, true},
		{sender.Conf{}, false},
		{sender.Conf{Batch: 1, Flight: 1}, false},
		{sender.Conf{Pause: pause.Params{First: 0, Most: 10}, Batch: 1, Flight: 1}, false},
		{sender.Conf{Pause: pause.Params{First: 3, Most: 2}, Batch: 1, Flight: 1}, false},
		{sender.Conf{Pause: pause.Params{First: 1, Most: 1<<40 + 1}, Batch: 1, Flight: 1}, false},
		{sender.Conf{Pause: pause.Params{First: math.MinInt64, Most: math.MaxInt64}, Batch: 1, Flight: 1}, false},
		{sender.Conf{Pause: good, Batch: 0, Flight: 1}, false},
		{sender.Conf{Pause: good, Batch: -1, Flight: 1}, false},
		{sender.Conf{Pause: good, Batch: math.MinInt, Flight: 1}, false},
		{sender.Conf{Pause: good, Batch: 65, Flight: 1024}, false},
		{sender.Conf{Pause: good, Batch: math.MaxInt, Flight: 1}, false},
		{sender.Conf{Pause: good, Batch: 1, Flight: 0}, false},
		{sender.Conf{Pause: good, Batch: 1, Flight: -1}, false},
		{sender.Conf{Pause: good, Batch: 1, Flight: math.MinInt}, false},
		{sender.Conf{Pause: good, Batch: 1, Flight: 1025}, false},
		{sender.Conf{Pause: good, Batch: 1, Flight: math.MaxInt}, false},
	} {
		if got := x.c.Right(); got != x.want {
			t.Errorf("%v is Right: %v", x.c, got)
		}
		for _, epoch := range []uint64{0, 1, most} {
			s, e := sender.New(x.c, epoch)
			if epoch == 0 || !x.want {
				if s != nil || e != api.ErrArg {
					t.Errorf("New(%v, %d) is %v, error %d", x.c, epoch, s, e)
				}
				continue
			}
			if s == nil || e != api.OK || s.Epoch() != epoch {
				t.Errorf("New(%v, %d) is %v, error %d", x.c, epoch, s, e)
			}
		}
	}
}

// P14.1: a new sender greets, knows no incarnation, has no limit, and its first Hello is at once.
func TestNew(t *testing.T) {
	s := made(t, conf(2, 3))
	state{}.held(t, "a new one", s)
	sends(t, s, 0, nil, hello())
	state{next: 2}.held(t, "greets", s)
}

// P14.2: Hellos at their times and one tick ahead of them, again and again till the waits no longer grow.
func TestGreet(t *testing.T) {
	for _, queued := range [][]sender.Ref{nil, refs(1, 9)} {
		s := made(t, conf(2, 3))
		at := int64(7)
		sends(t, s, at, queued, hello())
		for _, wait := range []int64{2, 4, 8, 10, 10, 10, 10} {
			state{next: at + wait}.held(t, "greets", s)
			sends(t, s, at, queued)
			sends(t, s, at+wait-1, queued)
			state{next: at + wait}.held(t, "one tick ahead", s)
			at += wait
			sends(t, s, at, queued, hello())
			sends(t, s, at, queued)
		}
	}
}

// P14.2: the next Hello's time counts from now, not from the time that was.
func TestGreetLate(t *testing.T) {
	s := made(t, conf(2, 3))
	sends(t, s, 100, nil, hello())
	sends(t, s, 1000, nil, hello())
	state{next: 1004}.held(t, "late", s)
	sends(t, s, 1003, nil)
	sends(t, s, far, nil, hello())
	state{next: far + 8}.held(t, "far", s)
}

// P14.2: of nothing queued nothing is sent, and no time is known.
func TestNothingQueued(t *testing.T) {
	s := greeted(t, conf(2, 3), most)
	for _, queued := range [][]sender.Ref{nil, {}} {
		sends(t, s, 0, queued)
		state{open: true, incarnation: 1, limit: most, next: -1}.held(t, "nothing queued", s)
	}
}

// P14.2: numbers at the limit are sent, those above it aren't; as the limit grows more are.
func TestLimit(t *testing.T) {
	s := greeted(t, conf(64, 100), 3)
	sends(t, s, 0, refs(1, 9), batch(1, 2, 3))
	state{open: true, incarnation: 1, limit: 3, flight: span(1, 3), next: 2}.held(t, "up to the limit", s)
	sends(t, s, 1, refs(1, 9))
	hears(t, s, ack(1, 0, 4), runs.Of(0))
	sends(t, s, 1, refs(1, 9), batch(4))
	hears(t, s, ack(1, 2, 6), span(0, 2))
	sends(t, s, 1, refs(3, 9), batch(5, 6))
	state{open: true, incarnation: 1, limit: 6, flight: span(3, 6), next: 2}.held(t, "more", s)
}

// P14.2: the limit is a number, not how many; and the greatest number may be sent, too.
func TestLimitFar(t *testing.T) {
	queued := []sender.Ref{{Number: 0}, {Number: 7}, {Number: 1 << 62}, {Number: most - 1}, {Number: most}}
	for limit, want := range map[uint64][]uint64{
		0: {0}, 6: {0}, 7: {0, 7}, 1 << 62: {0, 7, 1 << 62}, most - 1: {0, 7, 1 << 62, most - 1}, most: {0, 7, 1 << 62, most - 1, most},
	} {
		s := greeted(t, conf(64, 64), limit)
		sends(t, s, 0, queued, batch(want...))
		sends(t, s, 1, queued)
	}
}

// P14.2: groups have at most Batch numbers, each but the last one as many as that.
func TestBatch(t *testing.T) {
	for _, x := range []struct {
		batch  int
		queued uint64
		want   []sender.Out
	}{
		{1, 3, []sender.Out{batch(1), batch(2), batch(3)}},
		{3, 2, []sender.Out{batch(1, 2)}},
		{3, 3, []sender.Out{batch(1, 2, 3)}},
		{3, 4, []sender.Out{batch(1, 2, 3), batch(4)}},
		{3, 6, []sender.Out{batch(1, 2, 3), batch(4, 5, 6)}},
		{3, 7, []sender.Out{batch(1, 2, 3), batch(4, 5, 6), batch(7)}},
	} {
		s := greeted(t, conf(x.batch, 64), most)
		sends(t, s, 0, refs(1, x.queued), x.want...)
	}
	s := greeted(t, conf(64, 1024), most)
	out := s.Tick(0, refs(1, 1024))
	if len(out) != 16 || len(out[0].Numbers) != 64 || len(out[15].Numbers) != 64 || out[15].Numbers[63] != 1024 {
		t.Fatalf("Tick with 1024 queued is %v", out)
	}
}

// P14.2: groups have Sizes of at most Most together, but one number at least.
func TestMost(t *testing.T) {
	const half = sender.Most / 2
	if sender.Most != 60000 {
		t.Fatalf("Most is %d", sender.Most)
	}
	for _, x := range []struct {
		what  string
		sizes []int
		want  []sender.Out
	}{
		{"just Most", []int{half, half}, []sender.Out{batch(1, 2)}},
		{"one byte more", []int{half, half + 1}, []sender.Out{batch(1), batch(2)}},
		{"just Most, and a bit", []int{half, half - 16, 16, 16}, []sender.Out{batch(1, 2, 3), batch(4)}},
		{"Most alone", []int{sender.Most, 16}, []sender.Out{batch(1), batch(2)}},
		{"larger than Most alone", []int{sender.Most + 1}, []sender.Out{batch(1)}},
		{"larger ones one behind the other", []int{sender.Most + 1, sender.Most + 1, 16, 16}, []sender.Out{batch(1), batch(2), batch(3, 4)}},
		{"a larger one in the middle", []int{16, 16, sender.Most + 1, 16}, []sender.Out{batch(1, 2), batch(3), batch(4)}},
		{"size 0 behind a larger one", []int{sender.Most + 1, 0}, []sender.Out{batch(1), batch(2)}},
		{"size 0 behind Most", []int{sender.Most, 0, 0}, []sender.Out{batch(1, 2, 3)}},
		{"the greatest sizes", []int{math.MaxInt, math.MaxInt, 1, math.MaxInt}, []sender.Out{batch(1), batch(2), batch(3), batch(4)}},
		{"one behind the other, not the least ones first", []int{half, half + 1, half, 16}, []sender.Out{batch(1), batch(2), batch(3, 4)}},
		{"Batch, then Most", []int{16, 16, 16, 16, 16, half + 1, half}, []sender.Out{batch(1, 2, 3, 4, 5), batch(6), batch(7)}},
	} {
		s := greeted(t, conf(5, 64), most)
		if got := s.Tick(0, sized(x.sizes...)); !slices.EqualFunc(got, x.want, same) {
			t.Errorf("%s: %v, want %v", x.what, got, x.want)
		}
	}
}

// P14.2: as many as Flight lets go, and one more, which waits till another one was taken.
func TestFlight(t *testing.T) {
	for flight := 1; flight <= 8; flight++ {
		s := greeted(t, conf(64, flight), most)
		want := runs.Set{}
		for n := range uint64(flight) {
			want = want.Add(n + 1)
		}
		if out := s.Tick(0, refs(1, uint64(flight)+1)); len(out) != 1 || !runs.Same(runs.Of(out[0].Numbers...), want) {
			t.Fatalf("Flight %d: %v", flight, out)
		}
		state{open: true, incarnation: 1, limit: most, flight: want, next: 2}.held(t, "all that may", s)
		sends(t, s, 1, refs(1, uint64(flight)+1))
		hears(t, s, ack(1, 1, 0), span(0, 1))
		sends(t, s, 1, refs(2, uint64(flight)+2), batch(uint64(flight)+1))
	}
}

// P14.2: Flight counts all that are on their way, and cuts the last group.
func TestFlightCuts(t *testing.T) {
	s := greeted(t, conf(3, 7), most)
	sends(t, s, 0, refs(1, 2), batch(1, 2))
	sends(t, s, 1, refs(1, 20), batch(3, 4, 5), batch(6, 7))
	sends(t, s, 1, refs(1, 20))
	hears(t, s, ack(1, 0, 0, run(4, 6)), span(4, 6).Add(0))
	queued := slices.Concat(refs(1, 3), refs(7, 20))
	sends(t, s, 1, queued, batch(8, 9, 10))
	state{open: true, incarnation: 1, limit: most, flight: span(1, 3).Union(span(7, 10)), next: 2}.held(t, "cut", s)
}

// P14.2: who isn't queued any more isn't on its way any more, whatever is left of its group.
func TestNotQueued(t *testing.T) {
	s := greeted(t, conf(3, 6), 6)
	sends(t, s, 0, refs(1, 6), batch(1, 2, 3), batch(4, 5, 6))
	queued := []sender.Ref{{Number: 2, Size: 20}, {Number: 9, Size: 20}}
	sends(t, s, 1, queued)
	state{open: true, incarnation: 1, limit: 6, flight: runs.Of(2), next: 2}.held(t, "one is left", s)
	sends(t, s, 2, queued, batch(2))
	// Behind all that, what comes back is new.
	sends(t, s, 3, refs(1, 6), batch(1, 3, 4), batch(5, 6))
	sends(t, s, 4, nil)
	state{open: true, incarnation: 1, limit: 6, next: -1}.held(t, "nobody is left", s)
}

// P14.2: who isn't queued makes room at once.
func TestNotQueuedRoom(t *testing.T) {
	s := greeted(t, conf(2, 3), most)
	sends(t, s, 0, refs(1, 3), batch(1, 2), batch(3))
	sends(t, s, 1, refs(3, 9), batch(4, 5))
	sends(t, s, 1, refs(6, 9), batch(6, 7), batch(8))
}

// P14.2: what is Due comes ahead of what is new, at its very time, again and again till the waits no longer grow.
func TestDue(t *testing.T) {
	s := greeted(t, conf(2, 100), 100)
	sends(t, s, 0, refs(1, 3), batch(1, 2), batch(3))
	at := int64(0)
	for _, wait := range []int64{2, 4, 8, 10, 10, 10} {
		sends(t, s, at+wait-1, refs(1, 3))
		at += wait
		sends(t, s, at, refs(1, 3), batch(1, 2), batch(3))
	}
	s = greeted(t, conf(2, 100), 100)
	sends(t, s, 0, refs(1, 3), batch(1, 2), batch(3))
	sends(t, s, 2, refs(1, 6), batch(1, 2), batch(3), batch(4, 5), batch(6))
	sends(t, s, 4, refs(1, 7), batch(4, 5), batch(6), batch(7))
	sends(t, s, 6, refs(2, 8), batch(2), batch(3), batch(7), batch(8))
	state{open: true, incarnation: 1, limit: 100, flight: span(2, 8), next: 8}.held(t, "some are Due", s)
}

// P14.2: a probe at once, then at its times and not one tick ahead, till the waits no longer grow.
func TestProbe(t *testing.T) {
	s := greeted(t, conf(2, 3), 4)
	at, queued := int64(5), refs(5, 6)
	sends(t, s, at, queued, probe())
	for _, wait := range []int64{2, 4, 8, 10, 10, 10} {
		state{open: true, incarnation: 1, limit: 4, next: at + wait}.held(t, "probes", s)
		sends(t, s, at, queued)
		sends(t, s, at+wait-1, queued)
		at += wait
		sends(t, s, at, queued, probe())
	}
	// An answer that grants nothing leaves the probe's time as it is.
	hears(t, s, ack(1, 4, 4), span(0, 4))
	state{open: true, incarnation: 1, limit: 4, next: at + 10}.held(t, "nothing granted", s)
	sends(t, s, at+9, queued)
	sends(t, s, 1000, queued, probe())
	state{open: true, incarnation: 1, limit: 4, next: 1010}.held(t, "late", s)
}

// P14.2: a probe's tries begin anew behind something that goes.
func TestProbeBehindSending(t *testing.T) {
	s := greeted(t, conf(2, 3), 4)
	sends(t, s, 0, refs(5, 6), probe())
	sends(t, s, 2, refs(5, 6), probe())
	hears(t, s, ack(1, 4, 5), span(0, 4))
	state{open: true, incarnation: 1, limit: 5, next: 6}.held(t, "granted", s)
	sends(t, s, 3, refs(5, 6), batch(5))
	state{open: true, incarnation: 1, limit: 5, flight: runs.Of(5), next: 5}.held(t, "sent", s)
	hears(t, s, ack(1, 5, 5), span(0, 5))
	state{open: true, incarnation: 1, limit: 5, next: -1}.held(t, "acked", s)
	sends(t, s, 3, refs(6, 6), probe())
	state{open: true, incarnation: 1, limit: 5, next: 5}.held(t, "probes again", s)
}

// P14.2: a probe's tries begin anew behind a Tick with nothing queued.
func TestProbeBehindNothing(t *testing.T) {
	s := greeted(t, conf(2, 3), 4)
	sends(t, s, 0, refs(5, 6), probe())
	sends(t, s, 2, refs(5, 6), probe())
	sends(t, s, 3, nil)
	state{open: true, incarnation: 1, limit: 4, next: -1}.held(t, "nothing queued", s)
	sends(t, s, 3, refs(5, 6), probe())
	sends(t, s, 4, refs(5, 6))
	sends(t, s, 5, refs(5, 6), probe())
	state{open: true, incarnation: 1, limit: 4, next: 9}.held(t, "twice", s)
}

// P14.2: if what is on its way isn't queued any more, and nothing else may go, a probe does.
func TestProbeBehindShedding(t *testing.T) {
	s := greeted(t, conf(2, 3), 4)
	sends(t, s, 0, refs(3, 9), batch(3, 4))
	sends(t, s, 1, refs(4, 9))
	sends(t, s, 1, refs(5, 9), probe())
	state{open: true, incarnation: 1, limit: 4, next: 3}.held(t, "shed", s)
}

// P14.3: no other kind says anything, nor another epoch, nor a lesser incarnation.
func TestIgnored(t *testing.T) {
	frames := func(change func(f *frame.Frame)) []frame.Frame {
		l := []frame.Frame{welcome(5, 2, 50), ack(5, 2, 50)}
		for i := range l {
			change(&l[i])
		}
		return l
	}
	s := greeted(t, conf(2, 3), 10)
	hears(t, s, welcome(5, 0, 10), runs.Of(0))
	sends(t, s, 0, refs(1, 3), batch(1, 2), batch(3))
	for what, l := range map[string][]frame.Frame{
		"kind 0":                        frames(func(f *frame.Frame) { f.Kind = 0 }),
		"a Hello":                       frames(func(f *frame.Frame) { f.Kind = frame.Hello }),
		"a Batch":                       frames(func(f *frame.Frame) { f.Kind = frame.Batch }),
		"a Hello of a new incarnation":  frames(func(f *frame.Frame) { f.Kind, f.Incarnation = frame.Hello, 6 }),
		"a Batch of a new incarnation":  frames(func(f *frame.Frame) { f.Kind, f.Incarnation = frame.Batch, 6 }),
		"kind 5":                        frames(func(f *frame.Frame) { f.Kind = 5 }),
		"kind 255":                      frames(func(f *frame.Frame) { f.Kind = 255 }),
		"epoch 0":                       frames(func(f *frame.Frame) { f.Epoch = 0 }),
		"a lesser epoch":                frames(func(f *frame.Frame) { f.Epoch = epoch - 1 }),
		"a greater epoch":               frames(func(f *frame.Frame) { f.Epoch, f.Incarnation = epoch+1, 9 }),
		"the greatest epoch":            frames(func(f *frame.Frame) { f.Epoch = most }),
		"incarnation 0":                 frames(func(f *frame.Frame) { f.Incarnation = 0 }),
		"a lesser incarnation":          frames(func(f *frame.Frame) { f.Incarnation = 4 }),
		"an old epoch, new incarnation": frames(func(f *frame.Frame) { f.Epoch, f.Incarnation = 1, 7 }),
		"zero frames":                   {{}, {}},
	} {
		for _, f := range l {
			ignores(t, what, s, f)
		}
	}
	sends(t, s, 2, refs(1, 3), batch(1, 2), batch(3))
}

// P14.3: while it greets, an Ack says nothing, of whatever incarnation; a Welcome of a lesser incarnation doesn't, either.
func TestIgnoredWhileItGreets(t *testing.T) {
	s := made(t, conf(2, 3))
	for _, incarnation := range []uint64{0, 1, 7, most} {
		ignores(t, "an Ack", s, ack(incarnation, 2, 9))
	}
	sends(t, s, 0, refs(1, 3), hello())
	ignores(t, "an Ack", s, ack(1, 2, 9))
	hears(t, s, welcome(5, 0, 9), runs.Of(0))
	hears(t, s, ack(6, 0, 9), runs.Of(0))
	state{incarnation: 6}.held(t, "greets again", s)
	for _, incarnation := range []uint64{0, 5, 6, 7, most} {
		ignores(t, "an Ack", s, ack(incarnation, 2, 9))
	}
	ignores(t, "a Welcome of before", s, welcome(5, 2, 9))
	ignores(t, "a Welcome of another epoch", s, frame.Frame{Kind: frame.Welcome, Epoch: epoch + 1, Incarnation: 6, Limit: 9})
	hears(t, s, welcome(6, 0, 7), runs.Of(0))
	state{open: true, incarnation: 6, limit: 7, next: -1}.held(t, "open again", s)
}

// P14.3: a Welcome opens a sender that greets, of whatever incarnation that isn't less.
func TestWelcome(t *testing.T) {
	for _, incarnation := range []uint64{0, 1, 2, most} {
		for _, limit := range []uint64{0, 5, most} {
			s := made(t, conf(2, 3))
			sends(t, s, 8, refs(1, 1), hello())
			sends(t, s, 10, refs(1, 1), hello())
			hears(t, s, welcome(incarnation, 0, limit), runs.Of(0))
			state{open: true, incarnation: incarnation, limit: limit, next: -1}.held(t, "welcome", s)
			if limit > 0 {
				sends(t, s, 10, refs(1, 1), batch(1))
				continue
			}
			// Its probe is at once, and the first one.
			sends(t, s, 10, refs(1, 1), probe())
			state{open: true, incarnation: incarnation, next: 12}.held(t, "probes", s)
		}
	}
}

// P14.3: a Welcome of a greater incarnation, while it is open: all begins anew, also if the limit falls.
func TestWelcomeAnew(t *testing.T) {
	s := greeted(t, conf(2, 3), 9)
	sends(t, s, 0, refs(1, 3), batch(1, 2), batch(3))
	hears(t, s, welcome(2, 1, 2, run(3, 3)), runs.Of(0, 1, 3))
	state{open: true, incarnation: 2, limit: 2, next: -1}.held(t, "anew", s)
	sends(t, s, 0, []sender.Ref{{Number: 2, Size: 20}}, batch(2))
	// A probe's time and tries begin anew, too.
	s = greeted(t, conf(2, 3), 0)
	sends(t, s, 0, refs(1, 1), probe())
	sends(t, s, 2, refs(1, 1), probe())
	hears(t, s, welcome(3, 0, 0), runs.Of(0))
	state{open: true, incarnation: 3, next: -1}.held(t, "anew", s)
	sends(t, s, 3, refs(1, 1), probe())
	sends(t, s, 5, refs(1, 1), probe())
}

// P14.3: a Welcome, or an Ack, of the incarnation that is known, while it is open: the limit never falls, and the rest goes on.
func TestSameIncarnation(t *testing.T) {
	for what, of := range map[string]func(incarnation, cum, limit uint64, l ...runs.Run) frame.Frame{"ack": ack, "welcome": welcome} {
		s := greeted(t, conf(2, 4), 5)
		sends(t, s, 0, refs(1, 4), batch(1, 2), batch(3, 4))
		hears(t, s, of(1, 0, 0), runs.Of(0))
		hears(t, s, of(1, 0, 4), runs.Of(0))
		state{open: true, incarnation: 1, limit: 5, flight: span(1, 4), next: 2}.held(t, what, s)
		hears(t, s, of(1, 1, 6, run(3, 3)), runs.Of(0, 1, 3))
		state{open: true, incarnation: 1, limit: 6, flight: runs.Of(2, 4), next: 2}.held(t, what, s)
		hears(t, s, of(1, 1, 5, run(3, 3)), runs.Of(0, 1, 3))
		state{open: true, incarnation: 1, limit: 6, flight: runs.Of(2, 4), next: 2}.held(t, what, s)
		sends(t, s, 2, refs(2, 7), batch(2), batch(4), batch(3, 5))
		hears(t, s, of(1, 9, most), span(0, 9))
		state{open: true, incarnation: 1, limit: most, next: -1}.held(t, what, s)
	}
}

// P14.3: an Ack of a greater incarnation: it greets, at once, and its Hellos' tries begin anew; what the Ack tells is acked.
func TestAckAnew(t *testing.T) {
	s := made(t, conf(2, 3))
	for _, now := range []int64{80, 82, 86, 94} {
		sends(t, s, now, nil, hello())
	}
	hears(t, s, welcome(1, 0, 9), runs.Of(0))
	sends(t, s, 100, refs(1, 3), batch(1, 2), batch(3))
	hears(t, s, ack(2, 1, 50, run(3, 4)), runs.Of(0, 1, 3, 4))
	state{incarnation: 2}.held(t, "greets", s)
	sends(t, s, 101, refs(2, 2), hello())
	state{incarnation: 2, next: 103}.held(t, "greets", s)
	sends(t, s, 103, refs(2, 2), hello())
	state{incarnation: 2, next: 107}.held(t, "greets", s)
	hears(t, s, welcome(2, 1, 3), span(0, 1))
	sends(t, s, 103, refs(2, 4), batch(2, 3))
}

// P14.3: an Ack of a greater incarnation while it probes.
func TestAckAnewWhileItProbes(t *testing.T) {
	s := greeted(t, conf(2, 3), 0)
	sends(t, s, 5, refs(1, 1), probe())
	sends(t, s, 7, refs(1, 1), probe())
	hears(t, s, ack(most, 0, 50), runs.Of(0))
	state{incarnation: most}.held(t, "greets", s)
	sends(t, s, 8, refs(1, 1), hello())
	hears(t, s, welcome(most, 0, 0), runs.Of(0))
	sends(t, s, 8, refs(1, 1), probe())
	state{open: true, incarnation: most, next: 10}.held(t, "probes", s)
}

// P14.3: what is acked is all up to Cum, and the Runs, also far beyond what is on its way; of frames that aren't Right, too.
func TestAcked(t *testing.T) {
	for _, x := range []struct {
		what string
		cum  uint64
		runs []runs.Run
		want runs.Set
		left runs.Set
	}{
		{"nothing but 0", 0, nil, runs.Of(0), span(1, 8)},
		{"up to Cum", 5, nil, span(0, 5), span(6, 8)},
		{"runs", 0, []runs.Run{run(2, 3), run(7, 7)}, runs.Of(0, 2, 3, 7), runs.Of(1, 4, 5, 6, 8)},
		{"both", 1, []runs.Run{run(3, 4), run(6, 7)}, runs.Of(0, 1, 3, 4, 6, 7), runs.Of(2, 5, 8)},
		{"Cum far beyond", most, nil, span(0, most), runs.Set{}},
		{"a run far beyond", 0, []runs.Run{run(5, most)}, span(5, most).Add(0), span(1, 4)},
		{"runs beyond alone", 0, []runs.Run{run(100, 200), run(1<<40, most)}, span(100, 200).Union(span(1<<40, most)).Add(0), span(1, 8)},
		{"runs within Cum", 4, []runs.Run{run(1, 2), run(4, 4)}, span(0, 4), span(5, 8)},
		{"a run behind Cum", 4, []runs.Run{run(5, 6)}, span(0, 6), span(7, 8)},
		{"runs that fall", 0, []runs.Run{run(7, 7), run(4, 5), run(2, 2)}, runs.Of(0, 2, 4, 5, 7), runs.Of(1, 3, 6, 8)},
		{"runs that overlap", 0, []runs.Run{run(2, 5), run(4, 7), run(3, 3)}, span(2, 7).Add(0), runs.Of(1, 8)},
		{"a run turned round", 0, []runs.Run{run(5, 2), run(8, 8), run(most, 0)}, runs.Of(0, 8), span(1, 7)},
		{"alike runs", 0, []runs.Run{run(3, 3), run(3, 3), run(3, 3)}, runs.Of(0, 3), span(1, 2).Union(span(4, 8))},
	} {
		s := greeted(t, conf(3, 8), 8)
		sends(t, s, 0, refs(1, 8), batch(1, 2, 3), batch(4, 5, 6), batch(7, 8))
		hears(t, s, ack(1, x.cum, 0, x.runs...), x.want)
		if !runs.Same(s.Flight(), x.left) {
			t.Errorf("%s: %v are on their way, want %v", x.what, s.Flight().Runs(), x.left.Runs())
		}
	}
}

// P14.3: what an Ack tells comes out of its groups, the rest of which is sent again at its time.
func TestAckedGroups(t *testing.T) {
	s := greeted(t, conf(3, 9), 9)
	sends(t, s, 0, refs(1, 9), batch(1, 2, 3), batch(4, 5, 6), batch(7, 8, 9))
	hears(t, s, ack(1, 1, 9, run(4, 6), run(8, 8)), runs.Of(0, 1, 4, 5, 6, 8))
	queued := []sender.Ref{{Number: 2}, {Number: 3}, {Number: 7}, {Number: 9}}
	sends(t, s, 1, queued)
	sends(t, s, 2, queued, batch(2, 3), batch(7, 9))
	state{open: true, incarnation: 1, limit: 9, flight: runs.Of(2, 3, 7, 9), next: 6}.held(t, "the rest", s)
}

// P14.3: now says nothing to Receive.
func TestReceiveNow(t *testing.T) {
	for _, now := range []int64{0, 1, far, -1, math.MinInt64, math.MaxInt64} {
		s := greeted(t, conf(2, 3), 9)
		sends(t, s, 5, refs(1, 3), batch(1, 2), batch(3))
		if got, ok := s.Receive(now, ack(1, 1, 11)); !ok || !runs.Same(got, span(0, 1)) {
			t.Fatalf("Receive(%d) is %v, %v", now, got.Runs(), ok)
		}
		state{open: true, incarnation: 1, limit: 11, flight: span(2, 3), next: 7}.held(t, "received", s)
	}
}

// P14.3: Next is the least time of what is on its way.
func TestNext(t *testing.T) {
	s := greeted(t, conf(1, 5), 5)
	sends(t, s, 0, refs(1, 1), batch(1))
	sends(t, s, 1, refs(1, 2), batch(2))
	state{open: true, incarnation: 1, limit: 5, flight: span(1, 2), next: 2}.held(t, "both", s)
	sends(t, s, 2, refs(1, 2), batch(1))
	state{open: true, incarnation: 1, limit: 5, flight: span(1, 2), next: 3}.held(t, "one sent again", s)
	hears(t, s, ack(1, 0, 5, run(2, 2)), runs.Of(0, 2))
	state{open: true, incarnation: 1, limit: 5, flight: runs.Of(1), next: 6}.held(t, "one acked", s)
}

// P14.3, P1: of a nil sender.
func TestNil(t *testing.T) {
	var s *sender.Sender
	for _, queued := range [][]sender.Ref{nil, refs(1, 3)} {
		if out := s.Tick(0, queued); out != nil {
			t.Errorf("Tick is %v", out)
		}
	}
	for _, f := range []frame.Frame{{}, welcome(1, 2, 3), ack(0, 0, 0), welcome(0, most, most, run(0, most))} {
		if got, ok := s.Receive(0, f); ok || got.Count() != 0 {
			t.Errorf("Receive is %v, %v", got.Runs(), ok)
		}
	}
	f := frame.Frame{Kind: frame.Welcome}
	if got, ok := s.Receive(0, f); ok || got.Count() != 0 {
		t.Errorf("Receive of epoch 0 is %v, %v", got.Runs(), ok)
	}
	at, ok := s.Next()
	if s.Open() || s.Epoch() != 0 || s.Incarnation() != 0 || s.Limit() != 0 || s.Flight().Count() != 0 || at != 0 || ok {
		t.Errorf("%v, %d, %d, %d, %v, %d, %v", s.Open(), s.Epoch(), s.Incarnation(), s.Limit(), s.Flight().Runs(), at, ok)
	}
}

// P1: nothing panics at times, lists and frames that are beyond what is promised.
func TestWrong(t *testing.T) {
	lists := [][]sender.Ref{
		nil, sized(-1, -1, -1), sized(math.MinInt, math.MinInt, math.MaxInt, math.MaxInt), {{Number: 5}, {Number: 1}, {Number: 5}, {Number: 5}},
		{{Number: most}, {Number: most}, {Number: 0}},
	}
	times := []int64{5, 0, -1, math.MinInt64, math.MaxInt64, far, far - 1}
	for _, queued := range lists {
		s := made(t, conf(2, 3))
		for _, now := range times {
			s.Tick(now, queued)
		}
		s.Receive(0, welcome(1, 0, most))
		for _, now := range times {
			s.Tick(now, queued)
			if s.Flight().Count() > 3 {
				t.Fatalf("%d are on their way", s.Flight().Count())
			}
			s.Receive(now, ack(1, 0, 0, run(7, 3), run(5, 5)))
		}
	}
}

// P1: lists and frames with a great many parts.
func TestMany(t *testing.T) {
	const many = 200000
	var l []runs.Run
	for n := range uint64(many) {
		l = append(l, run(2*(many-n), 2*(many-n)))
	}
	s := greeted(t, conf(64, 1024), most)
	out := s.Tick(0, refs(1, many))
	if len(out) != 16 || s.Flight().Count() != 1024 {
		t.Fatalf("%d batches, %d on their way", len(out), s.Flight().Count())
	}
	acked, ok := s.Receive(0, ack(1, 0, 0, l...))
	if !ok || acked.Count() != many+1 || s.Flight().Count() != 512 || s.Flight().Has(2) {
		t.Fatalf("%d are acked, %d on their way", acked.Count(), s.Flight().Count())
	}
}
