package receiver_test

import (
	"math"
	"slices"
	"strings"
	"testing"

	"sumpter/api"
	"sumpter/disk"
	"sumpter/frame"
	"sumpter/ledger"
	"sumpter/receiver"
	"sumpter/runs"
	"sumpter/span"
	"sumpter/window"
)

const (
	// most is the greatest number, tooGreat the least that a ledger doesn't take.
	most     = math.MaxUint64
	tooGreat = 1 << 61
	// plenty is room for all that a test writes.
	plenty = 1 << 20
)

// nobodies are agents that there aren't.
var nobodies = []int{-1, api.MaxAgents, math.MinInt, math.MaxInt}

// conf answers a conf of this width, all in one segment.
func conf(width uint64) ledger.Conf {
	return ledger.Conf{Width: width, Segment: 1 << 20}
}

// opened answers the ledger that a disk has.
func opened(t *testing.T, d *disk.Disk, c ledger.Conf) *ledger.Ledger {
	t.Helper()
	l, e := ledger.Open(d, c)
	if e != api.OK {
		t.Fatalf("Open is error %d", e)
	}
	return l
}

// item answers an item of class 1.
func item(number uint64) span.Item {
	return span.Item{Number: number, Span: span.Span{Class: 1, Body: []byte("body" + string(rune('a'+number%26)))}}
}

// items answers items of these numbers.
func items(numbers ...uint64) []span.Item {
	var l []span.Item
	for _, n := range numbers {
		l = append(l, item(n))
	}
	return l
}

// hello answers a Hello.
func hello(agent int, epoch, base uint64) frame.Frame {
	return frame.Frame{Kind: frame.Hello, Agent: agent, Epoch: epoch, Base: base}
}

// batch answers a Batch of incarnation 1 and items of these numbers.
func batch(agent int, epoch, base uint64, numbers ...uint64) frame.Frame {
	return frame.Frame{Kind: frame.Batch, Agent: agent, Epoch: epoch, Incarnation: 1, Base: base, Items: items(numbers...)}
}

// answer answers a Welcome or an Ack of incarnation 1, with runs of a From and a To each.
func answer(kind byte, agent int, epoch, cum, limit uint64, ends ...uint64) frame.Frame {
	f := frame.Frame{Kind: kind, Agent: agent, Epoch: epoch, Incarnation: 1, Cum: cum, Limit: limit}
	for i := 0; i < len(ends); i += 2 {
		f.Runs = append(f.Runs, runs.Run{From: ends[i], To: ends[i+1]})
	}
	return f
}

// both are a receiver, and a ledger to which is done by hand what the receiver must do to its own.
type both struct {
	r    *receiver.Receiver
	hand *ledger.Ledger
	owed [api.MaxAgents]byte
}

// begun answers both on new disks, owing nobody.
func begun(t *testing.T, room int, c ledger.Conf) *both {
	t.Helper()
	b := &both{r: receiver.New(opened(t, disk.New(room), c)), hand: opened(t, disk.New(room), c)}
	b.agrees(t, "at first")
	return b
}

// greeted answers both once the agent's Hello of epoch 5 and base 1 was answered.
func greeted(t *testing.T, room int, c ledger.Conf, agent int) *both {
	t.Helper()
	b := begun(t, room, c)
	b.raises(t, agent, 5)
	b.hears(t, hello(agent, 5, 1), frame.Welcome)
	b.ticks(t, answer(frame.Welcome, agent, 5, 0, c.Width))
	return b
}

// raises does a Raise by hand.
func (b *both) raises(t *testing.T, agent int, epoch uint64) {
	t.Helper()
	if e := b.hand.Raise(agent, epoch); e != api.OK {
		t.Fatalf("Raise(%d, %d) is error %d", agent, epoch, e)
	}
}

// puts does a Put by hand, which takes these numbers.
func (b *both) puts(t *testing.T, agent int, base uint64, list []span.Item, want ...uint64) {
	t.Helper()
	if got, e := b.hand.Put(agent, base, list); e != api.OK || !slices.Equal(got, want) {
		t.Fatalf("Put(%d, %d, %d items) is %v, error %d, want %v", agent, base, len(list), got, e, want)
	}
}

// agrees looks whether the receiver owes what it must, and whether its ledger's disk has, and waits for, what that by hand does.
func (b *both) agrees(t *testing.T, what string) {
	t.Helper()
	for agent, want := range b.owed {
		if got := b.r.Owes(agent); got != want {
			t.Fatalf("%s: agent %d is owed %d, want %d", what, agent, got, want)
		}
	}
	for _, agent := range nobodies {
		if got := b.r.Owes(agent); got != 0 {
			t.Fatalf("%s: agent %d is owed %d", what, agent, got)
		}
	}
	d, own := b.r.Ledger().Log().Disk(), b.hand.Log().Disk()
	if !disk.Same(d, own) || d.Waiting() != own.Waiting() || !disk.Same(d.Crash(0, 0), own.Crash(0, 0)) {
		t.Fatalf("%s: the disk has %d bytes, %d calls wait, want %d, %d", what, d.Used(), d.Waiting(), own.Used(), own.Waiting())
	}
	for agent := range api.MaxAgents {
		if !window.Same(b.r.Ledger().Safe(agent), b.hand.Safe(agent)) || b.r.Ledger().Floor(agent) != b.hand.Floor(agent) {
			t.Fatalf("%s: of agent %d the ledger tells another window, or floor %d", what, agent, b.r.Ledger().Floor(agent))
		}
	}
}

// hears looks whether the receiver does a frame, whose agent is owed that then, and does to its ledger what was done by hand.
func (b *both) hears(t *testing.T, f frame.Frame, owed byte) {
	t.Helper()
	if !b.r.Receive(f) {
		t.Fatalf("Receive of %v is false", f)
	}
	b.owed[f.Agent] = owed
	b.agrees(t, "heard")
}

// ignores looks whether the receiver does nothing with a frame.
func (b *both) ignores(t *testing.T, f frame.Frame) {
	t.Helper()
	if b.r.Receive(f) {
		t.Fatalf("Receive of %v is true", f)
	}
	b.agrees(t, "ignored")
}

// same looks whether just these frames were answered.
func same(t *testing.T, got []frame.Frame, want ...frame.Frame) {
	t.Helper()
	if !slices.EqualFunc(got, want, frame.Same) {
		t.Fatalf("Tick is %v, want %v", got, want)
	}
	for _, f := range got {
		if !f.Right() {
			t.Fatalf("%v isn't Right", f)
		}
	}
}

// ticks looks whether Tick answers just these frames, and makes all safe; then nobody is owed.
func (b *both) ticks(t *testing.T, want ...frame.Frame) {
	t.Helper()
	same(t, b.r.Tick(), want...)
	b.hand.Sync()
	b.owed = [api.MaxAgents]byte{}
	b.agrees(t, "ticked")
	b.idles(t)
}

// idles looks whether Tick answers nothing, and changes nothing.
func (b *both) idles(t *testing.T) {
	t.Helper()
	if got := b.r.Tick(); len(got) != 0 {
		t.Fatalf("Tick is %v", got)
	}
	b.agrees(t, "idle")
}

// full tells both disks to be full, or not.
func (b *both) full(on bool) {
	b.r.Ledger().Log().Disk().Full(on)
	b.hand.Log().Disk().Full(on)
}

// The example of the chapter.
func TestExample(t *testing.T) {
	r := receiver.New(opened(t, disk.New(plenty), conf(6)))
	if !r.Receive(hello(0, 1, 1)) {
		t.Fatal("a Hello says nothing")
	}
	same(t, r.Tick(), frame.Frame{Kind: frame.Welcome, Epoch: 1, Incarnation: 1, Limit: 6})
	if r.Receive(hello(0, 0, 1)) || r.Owes(0) != 0 {
		t.Fatal("a Hello of epoch 0 is done")
	}
}

// P17.1: at first nobody is owed, and the ledger is that very one.
func TestNew(t *testing.T) {
	l := opened(t, disk.New(plenty), conf(4))
	if e := l.Raise(3, 7); e != api.OK {
		t.Fatal(e)
	}
	r := receiver.New(l)
	if r == nil || r.Ledger() != l {
		t.Fatalf("the ledger is %p, want %p", r.Ledger(), l)
	}
	for agent := -3; agent < api.MaxAgents+3; agent++ {
		if got := r.Owes(agent); got != 0 {
			t.Fatalf("agent %d is owed %d", agent, got)
		}
	}
	if got := r.Tick(); len(got) != 0 || l.Log().Disk().Waiting() != 1 {
		t.Fatalf("Tick is %v, %d calls wait", got, l.Log().Disk().Waiting())
	}
}

// P17.1: each agent is owed an answer of its own, in whatever order they were heard.
func TestOwesEach(t *testing.T) {
	b := begun(t, plenty, conf(4))
	for _, agent := range []int{15, 0, 7} {
		b.raises(t, agent, 2)
		b.hears(t, hello(agent, 2, 1), frame.Welcome)
	}
	b.ticks(t, answer(frame.Welcome, 0, 2, 0, 4), answer(frame.Welcome, 7, 2, 0, 4), answer(frame.Welcome, 15, 2, 0, 4))
	b.puts(t, 7, 1, items(1), 1)
	b.hears(t, batch(7, 2, 1, 1), frame.Ack)
	b.hears(t, hello(15, 2, 1), frame.Welcome)
	b.ticks(t, answer(frame.Ack, 7, 2, 1, 5), answer(frame.Welcome, 15, 2, 0, 4))
}

// wrongs answers frames that would be done, if they were Right.
func wrongs() []frame.Frame {
	var l []frame.Frame
	change := func(f frame.Frame, how func(*frame.Frame)) {
		how(&f)
		l = append(l, f)
	}
	for _, f := range []frame.Frame{hello(3, 6, 1), batch(3, 5, 1, 1, 3)} {
		for _, agent := range nobodies {
			change(f, func(f *frame.Frame) { f.Agent = agent })
		}
		for _, kind := range []byte{0, 5, 129, 255} {
			change(f, func(f *frame.Frame) { f.Kind = kind })
		}
		change(f, func(f *frame.Frame) { f.Epoch = 0 })
		change(f, func(f *frame.Frame) { f.Base = 0 })
		change(f, func(f *frame.Frame) { f.Cum = 1 })
		change(f, func(f *frame.Frame) { f.Limit = 1 })
		change(f, func(f *frame.Frame) { f.Runs = []runs.Run{{From: 3, To: 3}} })
	}
	change(hello(3, 6, 1), func(f *frame.Frame) { f.Incarnation = 1 })
	change(hello(3, 6, 1), func(f *frame.Frame) { f.Items = items(1) })
	change(batch(3, 5, 1), func(f *frame.Frame) { f.Items = items(3, 1) })
	change(batch(3, 5, 1), func(f *frame.Frame) { f.Items = items(1, 1) })
	change(batch(3, 5, 2), func(f *frame.Frame) { f.Items = items(1, 2) })
	change(batch(3, 5, 1, 1, 2), func(f *frame.Frame) { f.Items[1].Class = api.MaxClasses })
	change(batch(3, 5, 1, 1, 2), func(f *frame.Frame) { f.Items[1].Class = -1 })
	change(batch(3, 5, 1, 1, 2), func(f *frame.Frame) { f.Items[1].Body = make([]byte, api.MaxBody+1) })
	change(batch(3, 5, 1), func(f *frame.Frame) {
		for n := range uint64(api.MaxItems + 1) {
			f.Items = append(f.Items, item(n+1))
		}
	})
	return append(l, frame.Frame{}, frame.Frame{Agent: 3, Epoch: 5, Base: 1})
}

// P17.2: of a frame that isn't Right nothing is done, whether its agent is owed something or not.
func TestNotRight(t *testing.T) {
	b := greeted(t, plenty, conf(4), 3)
	for _, f := range wrongs() {
		b.ignores(t, f)
	}
	b.hears(t, batch(3, 5, 1), frame.Ack)
	for _, f := range wrongs() {
		b.ignores(t, f)
	}
	b.ticks(t, answer(frame.Ack, 3, 5, 0, 4))
}

// P17.2: what only the collector tells isn't done, however Right it is.
func TestOtherKinds(t *testing.T) {
	b := greeted(t, plenty, conf(4), 3)
	for _, kind := range []byte{frame.Welcome, frame.Ack} {
		for _, epoch := range []uint64{4, 5, 6} {
			for _, f := range []frame.Frame{answer(kind, 3, epoch, 0, 4), answer(kind, 3, epoch, 1, 9, 3, 4), answer(kind, 4, epoch, 1, 1)} {
				if !f.Right() {
					t.Fatalf("%v isn't Right", f)
				}
				b.ignores(t, f)
			}
		}
	}
	b.idles(t)
}

// P17.2: a Hello of an epoch below the floor says nothing, one at it asks for another Welcome, one above it raises it.
func TestHelloEpoch(t *testing.T) {
	b := greeted(t, plenty, conf(4), 3)
	for _, epoch := range []uint64{1, 4} {
		b.ignores(t, hello(3, epoch, 1))
		b.ignores(t, hello(3, epoch, 3))
	}
	b.idles(t)
	b.hears(t, hello(3, 5, 1), frame.Welcome)
	b.ticks(t, answer(frame.Welcome, 3, 5, 0, 4))
	for _, epoch := range []uint64{6, 300, tooGreat - 1} {
		b.raises(t, 3, epoch)
		b.hears(t, hello(3, epoch, 1), frame.Welcome)
		b.ignores(t, hello(3, epoch-1, 1))
		b.ticks(t, answer(frame.Welcome, 3, epoch, 0, 4))
	}
	// Another agent's floor is its own.
	b.raises(t, 4, 1)
	b.hears(t, hello(4, 1, 1), frame.Welcome)
	b.ticks(t, answer(frame.Welcome, 4, 1, 0, 4))
}

// P17.2: if the floor can't be raised, nothing more is done: neither is the base put, nor a Welcome owed.
func TestHelloCantRaise(t *testing.T) {
	b := greeted(t, plenty, conf(4), 3)
	for _, epoch := range []uint64{tooGreat, most} {
		b.ignores(t, hello(3, epoch, 4))
	}
	b.full(true)
	b.ignores(t, hello(3, 6, 4))
	b.ignores(t, hello(2, 1, 4))
	b.idles(t)
	b.full(false)
	// What is owed stays owed.
	b.hears(t, batch(3, 5, 1), frame.Ack)
	b.full(true)
	b.ignores(t, hello(3, 6, 4))
	b.ticks(t, answer(frame.Ack, 3, 5, 0, 4))
}

// P17.2: a Raise has no room at each room that is too small for it, and has it at the least one that isn't.
func TestHelloRoom(t *testing.T) {
	for room := 22; room < 33; room++ {
		b := begun(t, room, conf(4))
		b.ignores(t, hello(2, 1, 4))
	}
	b := begun(t, 33, conf(4))
	b.raises(t, 2, 1)
	b.hears(t, hello(2, 1, 4), frame.Welcome)
	b.ticks(t, answer(frame.Welcome, 2, 1, 0, 4))
}

// P17.2: a Hello's base is put, without items.
func TestHelloBase(t *testing.T) {
	b := greeted(t, plenty, conf(4), 3)
	b.puts(t, 3, 4, nil)
	b.hears(t, hello(3, 5, 4), frame.Welcome)
	b.ticks(t, answer(frame.Welcome, 3, 5, 3, 7))
	for _, base := range []uint64{1, 3, 4} {
		b.hears(t, hello(3, 5, base), frame.Welcome)
		b.ticks(t, answer(frame.Welcome, 3, 5, 3, 7))
	}
	b.raises(t, 3, 6)
	b.puts(t, 3, tooGreat-1, nil)
	b.hears(t, hello(3, 6, tooGreat-1), frame.Welcome)
	b.ticks(t, answer(frame.Welcome, 3, 6, tooGreat-2, tooGreat+2))
}

// P17.2: a Welcome is owed though the base can't be put, for it is too great, or there is no room.
func TestHelloCantPut(t *testing.T) {
	b := greeted(t, plenty, conf(4), 3)
	for _, base := range []uint64{tooGreat, most} {
		b.hears(t, hello(3, 5, base), frame.Welcome)
		b.ticks(t, answer(frame.Welcome, 3, 5, 0, 4))
	}
	b.raises(t, 3, 6)
	b.hears(t, hello(3, 6, tooGreat), frame.Welcome)
	b.ticks(t, answer(frame.Welcome, 3, 6, 0, 4))
	b.full(true)
	b.hears(t, hello(3, 6, 4), frame.Welcome)
	b.ticks(t, answer(frame.Welcome, 3, 6, 0, 4))
	// Here is room for the Raise, and a byte too few for the base.
	b = begun(t, 44, conf(4))
	b.raises(t, 2, 1)
	b.hears(t, hello(2, 1, 4), frame.Welcome)
	b.ticks(t, answer(frame.Welcome, 2, 1, 0, 4))
	b = begun(t, 45, conf(4))
	b.raises(t, 2, 1)
	b.puts(t, 2, 4, nil)
	b.hears(t, hello(2, 1, 4), frame.Welcome)
	b.ticks(t, answer(frame.Welcome, 2, 1, 3, 7))
}

// P17.2: a Batch says nothing, if its epoch isn't the floor.
func TestBatchEpoch(t *testing.T) {
	b := begun(t, plenty, conf(4))
	for _, epoch := range []uint64{1, 5, most} {
		b.ignores(t, batch(3, epoch, 1, 1))
	}
	b = greeted(t, plenty, conf(4), 3)
	for _, epoch := range []uint64{1, 4, 6, tooGreat, most} {
		b.ignores(t, batch(3, epoch, 1, 1))
		b.ignores(t, batch(3, epoch, 4))
	}
	// The floor of agent 3 is no other one's.
	b.ignores(t, batch(4, 5, 1, 1))
	b.idles(t)
	b.puts(t, 3, 1, items(1), 1)
	b.hears(t, batch(3, 5, 1, 1), frame.Ack)
	b.ticks(t, answer(frame.Ack, 3, 5, 1, 5))
}

// P17.2: a Batch says nothing, if its incarnation is above the ledger's; at it and below it is done.
func TestBatchIncarnation(t *testing.T) {
	d := disk.New(plenty)
	for range 3 {
		opened(t, d, conf(4))
	}
	r := receiver.New(opened(t, d, conf(4)))
	if r.Ledger().Incarnation() != 4 || !r.Receive(hello(3, 5, 1)) || len(r.Tick()) != 1 {
		t.Fatal("a Hello says nothing")
	}
	for number, incarnation := range []uint64{4, 3, 1, 0} {
		f := batch(3, 5, 1, uint64(number+1))
		f.Incarnation = incarnation
		for _, above := range []uint64{5, 6, tooGreat, most} {
			g := f
			g.Incarnation = above
			if r.Receive(g) || r.Owes(3) != 0 || r.Ledger().Log().Disk().Waiting() != 0 {
				t.Fatalf("a Batch of incarnation %d is done", above)
			}
		}
		if !r.Receive(f) || r.Owes(3) != frame.Ack {
			t.Fatalf("a Batch of incarnation %d says nothing", incarnation)
		}
		want := answer(frame.Ack, 3, 5, uint64(number+1), uint64(number+5))
		want.Incarnation = 4
		same(t, r.Tick(), want)
	}
}

// P17.2: a Batch's base is put, and those of its items that the window takes.
func TestBatchItems(t *testing.T) {
	b := greeted(t, plenty, conf(4), 3)
	b.hears(t, batch(3, 5, 1), frame.Ack)
	b.ticks(t, answer(frame.Ack, 3, 5, 0, 4))
	b.puts(t, 3, 1, items(2, 4), 2, 4)
	b.hears(t, batch(3, 5, 1, 2, 4), frame.Ack)
	b.ticks(t, answer(frame.Ack, 3, 5, 0, 4, 2, 2, 4, 4))
	// All of them came already.
	b.hears(t, batch(3, 5, 1, 2, 4), frame.Ack)
	b.ticks(t, answer(frame.Ack, 3, 5, 0, 4, 2, 2, 4, 4))
	// 4 came already, and 5 and 99 are beyond the window.
	b.puts(t, 3, 1, items(3, 4, 5, 99), 3)
	b.hears(t, batch(3, 5, 1, 3, 4, 5, 99), frame.Ack)
	b.ticks(t, answer(frame.Ack, 3, 5, 0, 4, 2, 4))
	b.hears(t, batch(3, 5, 1, 5, 99), frame.Ack)
	b.ticks(t, answer(frame.Ack, 3, 5, 0, 4, 2, 4))
	// With 1 the window moves, so that 5 is taken, too.
	b.puts(t, 3, 1, items(1, 5), 1, 5)
	b.hears(t, batch(3, 5, 1, 1, 5), frame.Ack)
	b.ticks(t, answer(frame.Ack, 3, 5, 5, 9))
	b.puts(t, 3, 8, nil)
	b.hears(t, batch(3, 5, 8), frame.Ack)
	b.ticks(t, answer(frame.Ack, 3, 5, 7, 11))
	// A base below says nothing any more, but its Batch is heard.
	b.hears(t, batch(3, 5, 2, 3, 7), frame.Ack)
	b.ticks(t, answer(frame.Ack, 3, 5, 7, 11))
	b.puts(t, 3, 12, items(12, 15), 12, 15)
	b.hears(t, batch(3, 5, 12, 12, 15), frame.Ack)
	b.ticks(t, answer(frame.Ack, 3, 5, 12, 16, 15, 15))
}

// P17.2: if a Batch can't be put, nothing is done, and nothing more is owed than was.
func TestBatchCantPut(t *testing.T) {
	b := greeted(t, plenty, conf(4), 3)
	for _, f := range []frame.Frame{batch(3, 5, tooGreat), batch(3, 5, most), batch(3, 5, 1, 1, tooGreat), batch(3, 5, 1, most)} {
		b.ignores(t, f)
	}
	b.full(true)
	for _, f := range []frame.Frame{batch(3, 5, 1, 1), batch(3, 5, 3)} {
		b.ignores(t, f)
	}
	b.idles(t)
	// Nothing is to be written of these.
	b.hears(t, batch(3, 5, 1), frame.Ack)
	b.hears(t, batch(3, 5, 1, 99), frame.Ack)
	b.ignores(t, batch(3, 5, 1, 1))
	b.ticks(t, answer(frame.Ack, 3, 5, 0, 4))
	b.full(false)
	b.puts(t, 3, 1, items(1), 1)
	b.hears(t, batch(3, 5, 1, 1), frame.Ack)
	b.ticks(t, answer(frame.Ack, 3, 5, 1, 5))
}

// P17.2: a Welcome that is owed stays owed behind a Batch; an Ack that is owed gives way to a Welcome.
func TestWelcomeAheadOfAck(t *testing.T) {
	b := greeted(t, plenty, conf(4), 3)
	b.hears(t, hello(3, 5, 1), frame.Welcome)
	b.puts(t, 3, 1, items(1, 3), 1, 3)
	b.hears(t, batch(3, 5, 1, 1, 3), frame.Welcome)
	b.hears(t, batch(3, 5, 1), frame.Welcome)
	b.ticks(t, answer(frame.Welcome, 3, 5, 1, 5, 3, 3))
	b.hears(t, batch(3, 5, 1), frame.Ack)
	b.hears(t, batch(3, 5, 1), frame.Ack)
	b.hears(t, hello(3, 5, 1), frame.Welcome)
	b.hears(t, hello(3, 5, 1), frame.Welcome)
	b.ticks(t, answer(frame.Welcome, 3, 5, 1, 5, 3, 3))
	// An Ack of an epoch that is over gives way to the next one's Welcome.
	b.hears(t, batch(3, 5, 1), frame.Ack)
	b.raises(t, 3, 6)
	b.hears(t, hello(3, 6, 1), frame.Welcome)
	b.ignores(t, batch(3, 5, 1, 2))
	b.ticks(t, answer(frame.Welcome, 3, 6, 1, 5, 3, 3))
}

// P17.3: Tick of nobody who is owed syncs nothing.
func TestTickOfNobody(t *testing.T) {
	b := greeted(t, plenty, conf(4), 3)
	d := b.r.Ledger().Log().Disk()
	b.raises(t, 2, 1)
	if e := b.r.Ledger().Raise(2, 1); e != api.OK || d.Waiting() != 1 {
		t.Fatal(e)
	}
	b.idles(t)
	b.hears(t, batch(3, 5, 1), frame.Ack)
	b.ticks(t, answer(frame.Ack, 3, 5, 0, 4))
	if d.Waiting() != 0 {
		t.Fatalf("%d calls wait", d.Waiting())
	}
}

// P17.3: of each agent that is owed, rising, a frame; all of them, each, and the first and the last.
func TestTickOfSeveral(t *testing.T) {
	b := begun(t, plenty, conf(4))
	var want []frame.Frame
	for agent := range api.MaxAgents {
		epoch, base := uint64(agent+1), uint64(3*agent+1)
		b.raises(t, agent, epoch)
		b.puts(t, agent, base, nil)
		b.hears(t, hello(agent, epoch, base), frame.Welcome)
		want = append(want, answer(frame.Welcome, agent, epoch, base-1, base+3))
	}
	b.ticks(t, want...)
	for agent := api.MaxAgents - 1; agent >= 0; agent-- {
		epoch, base := uint64(agent+1), uint64(3*agent+1)
		n := base + uint64(agent%4)
		b.puts(t, agent, base, items(n), n)
		b.hears(t, batch(agent, epoch, base, n), frame.Ack)
		want[agent] = answer(frame.Ack, agent, epoch, base-1, base+3, n, n)
		if n == base {
			want[agent] = answer(frame.Ack, agent, epoch, base, base+4)
		}
	}
	b.ticks(t, want...)
	for agent := range api.MaxAgents {
		b.hears(t, batch(agent, uint64(agent+1), 1), frame.Ack)
		b.ticks(t, want[agent])
	}
	b.hears(t, batch(15, 16, 1), frame.Ack)
	b.hears(t, batch(0, 1, 1), frame.Ack)
	b.ticks(t, want[0], want[15])
}

// P17.3: of a window's runs the first api.MaxRuns are told.
func TestTickRuns(t *testing.T) {
	for _, many := range []int{0, 1, api.MaxRuns - 1, api.MaxRuns, api.MaxRuns + 1, 2 * api.MaxRuns} {
		b := greeted(t, plenty, conf(api.MaxWindow), 3)
		var ends []uint64
		for i := range uint64(many) {
			n := 3*i + 4
			b.puts(t, 3, 2, items(n, n+1), n, n+1)
			b.hears(t, batch(3, 5, 2, n, n+1), frame.Ack)
			if i < api.MaxRuns {
				ends = append(ends, n, n+1)
			}
		}
		b.puts(t, 3, 3, nil)
		b.hears(t, batch(3, 5, 3), frame.Ack)
		b.ticks(t, answer(frame.Ack, 3, 5, 2, api.MaxWindow+2, ends...))
	}
}

// P17.3: a frame tells the ledger's incarnation, behind each crash a greater one.
func TestTickIncarnation(t *testing.T) {
	d := disk.New(plenty)
	for incarnation := range uint64(4) {
		l := opened(t, d, conf(4))
		r := receiver.New(l)
		if !r.Receive(hello(3, 5, incarnation+1)) {
			t.Fatal("a Hello says nothing")
		}
		want := answer(frame.Welcome, 3, 5, incarnation, incarnation+4)
		want.Incarnation = incarnation + 1
		same(t, r.Tick(), want)
		d = d.Crash(0, 0)
	}
}

// P17.3: what is told is safe: a crash right behind it leaves all of that.
func TestToldIsSafe(t *testing.T) {
	c := conf(4)
	b := greeted(t, plenty, c, 3)
	b.raises(t, 3, 6)
	b.hears(t, hello(3, 6, 1), frame.Welcome)
	b.puts(t, 3, 2, items(2, 4), 2, 4)
	b.hears(t, batch(3, 6, 2, 2, 4), frame.Welcome)
	d := b.r.Ledger().Log().Disk()
	if d.Waiting() != 2 {
		t.Fatalf("%d calls wait", d.Waiting())
	}
	b.ticks(t, answer(frame.Welcome, 3, 6, 2, 6, 4, 4))
	l := opened(t, d.Crash(0, 0), c)
	if w := l.Window(3); l.Floor(3) != 6 || w.Low != 2 || !runs.Same(w.Set, runs.Of(4)) || len(l.Stored()) != 2 {
		t.Fatalf("found is floor %d, %d, %v, %d spans", l.Floor(3), w.Low, w.Set.Runs(), len(l.Stored()))
	}
	// Behind the crash the epoch goes on, and what came isn't stored again.
	r := receiver.New(l)
	if !r.Receive(batch(3, 6, 2, 2, 3, 4)) || r.Receive(batch(3, 5, 2, 5)) {
		t.Fatal("behind a crash the epoch is another one")
	}
	want := answer(frame.Ack, 3, 6, 4, 8)
	want.Incarnation = 2
	same(t, r.Tick(), want)
	if got := l.Stored(); len(got) != 3 || got[2].Number != 3 {
		t.Fatalf("%v are stored", got)
	}
}

// P17.3: a greatest batch is kept, and a frame of it is told.
func TestGreatest(t *testing.T) {
	b := greeted(t, plenty, conf(api.MaxWindow), 15)
	f := batch(15, 5, 1)
	for n := range uint64(api.MaxItems) {
		f.Items = append(f.Items, span.Item{Number: 2*n + 2, Span: span.Span{Class: 7, Body: []byte(strings.Repeat("x", api.MaxBody))}})
	}
	var taken, ends []uint64
	for _, i := range f.Items {
		taken = append(taken, i.Number)
		ends = append(ends, i.Number, i.Number)
	}
	b.puts(t, 15, 1, f.Items, taken...)
	b.hears(t, f, frame.Ack)
	b.ticks(t, answer(frame.Ack, 15, 5, 0, api.MaxWindow, ends[:2*api.MaxRuns]...))
}

// P17.3, P1: a nil receiver, and New of a nil ledger.
func TestNil(t *testing.T) {
	if receiver.New(nil) != nil {
		t.Fatal("New of a nil ledger isn't nil")
	}
	var r *receiver.Receiver
	for _, f := range append(wrongs(), hello(0, 1, 1), batch(0, 1, 1, 1)) {
		if r.Receive(f) {
			t.Fatalf("Receive of %v is true", f)
		}
	}
	if got := r.Tick(); len(got) != 0 || r.Ledger() != nil {
		t.Fatalf("Tick is %v, the ledger %v", got, r.Ledger())
	}
	for _, agent := range append([]int{0, 15}, nobodies...) {
		if r.Owes(agent) != 0 {
			t.Fatalf("agent %d is owed %d", agent, r.Owes(agent))
		}
	}
}
