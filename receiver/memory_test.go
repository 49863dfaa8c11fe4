package receiver_test

import (
	"bytes"
	"slices"
	"testing"

	"sumpter/api"
	"sumpter/disk"
	"sumpter/frame"
	"sumpter/ledger"
	"sumpter/receiver"
	"sumpter/runs"
	"sumpter/span"
)

// overwrite writes over a list, and over its spare room.
func overwrite[E any](l []E, with E) {
	l = l[:cap(l)]
	for i := range l {
		l[i] = with
	}
}

// sameItem tells whether two items are alike.
func sameItem(a, b span.Item) bool {
	return a.Number == b.Number && span.Same(a.Span, b.Span)
}

// Rule of memory: a Batch's items and their bodies stay as they were, their spare room too, and aren't kept.
func TestBatchMemory(t *testing.T) {
	r := greeted(t, plenty, conf(4), 3).r
	var bodies [][]byte
	var list []span.Item
	for _, n := range []uint64{1, 2, 9} {
		body := append([]byte("body"), bytes.Repeat([]byte{0xee}, 32)...)
		bodies = append(bodies, body)
		list = append(list, span.Item{Number: n, Span: span.Span{Class: 3, Body: body[:n%4]}})
	}
	whole := append(slices.Clone(list), item(77), item(78))
	before := slices.Clone(whole)
	f := batch(3, 5, 1)
	f.Items = whole[:3]
	if !r.Receive(f) {
		t.Fatal("a Batch says nothing")
	}
	for i, body := range bodies {
		if string(body) != "body"+string(bytes.Repeat([]byte{0xee}, 32)) {
			t.Fatalf("what was handed in is %x", body)
		}
		overwrite(bodies[i], 0x55)
	}
	if !slices.EqualFunc(whole, before, sameItem) {
		t.Fatalf("what was handed in is %v", whole)
	}
	overwrite(whole, item(99))
	same(t, r.Tick(), answer(frame.Ack, 3, 5, 2, 6))
	for _, l := range []*ledger.Ledger{r.Ledger(), opened(t, r.Ledger().Log().Disk().Crash(0, 0), conf(4))} {
		got := l.Stored()
		if len(got) != 2 || got[0].Number != 1 || string(got[0].Body) != "b" || got[1].Number != 2 || string(got[1].Body) != "bo" {
			t.Fatalf("written over: %v are stored", got)
		}
	}
}

// Rule of memory: what a frame has that it mustn't stays as it was, too.
func TestIgnoredMemory(t *testing.T) {
	r := greeted(t, plenty, conf(4), 3).r
	run := runs.Run{From: 3, To: 3}
	ends := []runs.Run{run, {From: 7, To: 6}, run, run}
	f := frame.Frame{Kind: frame.Ack, Agent: 3, Epoch: 5, Limit: 9, Runs: ends[:1]}
	for _, kind := range []byte{frame.Hello, frame.Welcome, frame.Batch, frame.Ack, 9} {
		f.Kind = kind
		if r.Receive(f) || !slices.Equal(ends, []runs.Run{run, {From: 7, To: 6}, run, run}) {
			t.Fatalf("of kind %d what was handed in is %v", kind, ends)
		}
	}
}

// Rule of memory: what is answered is the caller's own, list by list.
func TestAnswers(t *testing.T) {
	b := begun(t, plenty, conf(9))
	var want []frame.Frame
	for agent := range 3 {
		b.raises(t, agent, 1)
		b.hears(t, hello(agent, 1, 1), frame.Welcome)
		b.puts(t, agent, 1, items(3, 5, 8), 3, 5, 8)
		b.hears(t, batch(agent, 1, 1, 3, 5, 8), frame.Welcome)
		want = append(want, answer(frame.Welcome, agent, 1, 0, 9, 3, 3, 5, 5, 8, 8))
	}
	first := b.r.Tick()
	for agent := range first {
		same(t, first[agent:], want[agent:]...)
		overwrite(first[agent].Runs, runs.Run{From: 7, To: 6})
	}
	overwrite(first, frame.Frame{Kind: 9})
	b.hand.Sync()
	b.owed = [api.MaxAgents]byte{}
	b.agrees(t, "written over")
	for agent := range want {
		b.hears(t, batch(agent, 1, 1), frame.Ack)
		want[agent].Kind = frame.Ack
	}
	second := b.r.Tick()
	same(t, second, want...)
	b.owed = [api.MaxAgents]byte{}
	b.puts(t, 0, 1, items(1, 6), 1, 6)
	b.hears(t, batch(0, 1, 1, 1, 6), frame.Ack)
	third := b.r.Tick()
	same(t, third, answer(frame.Ack, 0, 1, 1, 10, 3, 3, 5, 6, 8, 8))
	same(t, second, want...)
	overwrite(third[0].Runs, runs.Run{From: 7, To: 6})
	overwrite(second[0].Runs, runs.Run{From: 9, To: 2})
	same(t, second[1:], want[1:]...)
}

// Two receivers of ledgers of their own know nothing of each other.
func TestTwoReceivers(t *testing.T) {
	a, b := begun(t, plenty, conf(4)), begun(t, plenty, conf(4))
	a.raises(t, 0, 5)
	a.hears(t, hello(0, 5, 1), frame.Welcome)
	b.idles(t)
	b.raises(t, 0, 6)
	b.hears(t, hello(0, 6, 1), frame.Welcome)
	b.raises(t, 1, 1)
	b.hears(t, hello(1, 1, 1), frame.Welcome)
	b.ticks(t, answer(frame.Welcome, 0, 6, 0, 4), answer(frame.Welcome, 1, 1, 0, 4))
	a.agrees(t, "the first")
	a.ticks(t, answer(frame.Welcome, 0, 5, 0, 4))
	if x := receiver.New(opened(t, disk.New(plenty), conf(4))); x.Owes(0) != 0 || len(x.Tick()) != 0 {
		t.Fatal("a third one owes something")
	}
}
