package ledger_test

import (
	"bytes"
	"slices"
	"testing"

	"sumpter/disk"
	"sumpter/ledger"
	"sumpter/runs"
	"sumpter/span"
	"sumpter/window"
)

// overwrite writes over a list, and over its spare room.
func overwrite[E any](l []E, with E) {
	l = l[:cap(l)]
	for i := range l {
		l[i] = with
	}
}

// Rule of memory: items and their bodies stay as they were, their spare room too, and aren't kept.
func TestItemsMemory(t *testing.T) {
	l := opened(t, disk.New(10000), conf(4))
	var bodies [][]byte
	var list []span.Item
	for _, n := range []uint64{2, 1, 9} {
		body := append([]byte("body"), bytes.Repeat([]byte{0xee}, 32)...)
		bodies = append(bodies, body)
		list = append(list, span.Item{Number: n, Span: span.Span{Class: 3, Body: body[:n%3]}})
	}
	whole := append(slices.Clone(list), item(77, "spare"), item(78, "spare"))
	before := slices.Clone(whole)
	puts(t, l, 5, 1, whole[:3], 2, 1)
	for i, body := range bodies {
		if string(body) != "body"+string(bytes.Repeat([]byte{0xee}, 32)) {
			t.Fatalf("what was handed in is %x", body)
		}
		overwrite(bodies[i], 0x55)
	}
	if !slices.EqualFunc(whole, before, func(a, b span.Item) bool { return a.Number == b.Number && span.Same(a.Span, b.Span) }) {
		t.Fatalf("what was handed in is %v", whole)
	}
	overwrite(whole, item(99, "other"))
	want := state{incarnation: 1, width: 4, windows: map[int]window.Window{5: win(2)}}
	want.all = recs(5, span.Item{Number: 2, Span: span.Span{Class: 3, Body: []byte("bo")}}, span.Item{Number: 1, Span: span.Span{Class: 3, Body: []byte("b")}})
	holds(t, "written over", l, want)
	again(t, "written over", l, 9, 0, conf(4), want)
}

// Rule of memory: what is answered is the caller's own, and no two answers share any.
func TestAnswers(t *testing.T) {
	d := disk.New(10000)
	first := opened(t, d, conf(4))
	taken, _ := first.Put(3, 1, items(1, 4, 3))
	other, _ := first.Put(3, 1, items(2, 5))
	overwrite(taken, 77)
	if !slices.Equal(other, []uint64{2, 5}) {
		t.Fatalf("two answers share memory: %v", other)
	}
	overwrite(other, 88)
	syncs(t, first)
	want := state{incarnation: 1, width: 4, windows: map[int]window.Window{3: win(5)}, all: recs(3, items(1, 4, 3, 2, 5)...)}
	for _, l := range []*ledger.Ledger{first, opened(t, d.Copy(), conf(4))} {
		lists := [][]ledger.Rec{l.All(), l.All(), l.Stored(), l.Stored()}
		one, _ := l.Get(span.ID{Agent: 3, Number: 4})
		two, _ := l.Get(span.ID{Agent: 3, Number: 4})
		overwrite(one.Body, 0x55)
		if !span.Same(two, items(4)[0].Span) {
			t.Fatalf("two answers share memory: %q", two.Body)
		}
		overwrite(two.Body, 0x66)
		for i := range lists {
			if !alike(lists[i], want.all) {
				t.Fatalf("an answer changed: %v", lists[i])
			}
			for j := range lists[i] {
				overwrite(lists[i][j].Body, 0x77)
				if j+1 < len(lists[i]) && !alike(lists[i][j+1:], want.all[j+1:]) {
					t.Fatalf("two bodies share memory: %v", lists[i])
				}
			}
			overwrite(lists[i], ledger.Rec{})
		}
		x := want.synced()
		x.incarnation = l.Incarnation()
		holds(t, "written over", l, x)
		again(t, "written over", l, 9, 0, conf(4), x)
	}
}

// Values: windows that were answered stay as they were, whatever the ledger does then.
func TestWindows(t *testing.T) {
	l := opened(t, disk.New(10000), conf(4))
	puts(t, l, 0, 1, items(2, 4), 2, 4)
	syncs(t, l)
	now, safe := l.Window(0), l.Safe(0)
	overwrite(now.Set.Runs(), runs.Run{From: 9, To: 9})
	overwrite(safe.Runs(2), runs.Run{From: 9, To: 9})
	changed := l.Window(0)
	changed.Low, changed.Width = 99, 1
	puts(t, l, 0, 1, items(1, 3, 6), 1, 3, 6)
	syncs(t, l)
	if !window.Same(now, win(0, 2, 4)) || !window.Same(safe, win(0, 2, 4)) || !window.Same(l.Window(0), win(4, 6)) || !window.Same(l.Safe(0), win(4, 6)) {
		t.Errorf("%v, %v, %v, %v", now, safe, l.Window(0), l.Safe(0))
	}
}

// Two ledgers of one conf, on disks of their own, know nothing of each other.
func TestTwoLedgers(t *testing.T) {
	a, b := opened(t, disk.New(1000), conf(4)), opened(t, disk.New(1000), conf(4))
	puts(t, a, 0, 1, items(1, 3), 1, 3)
	raises(t, a, 0, 5, 0)
	syncs(t, a)
	holds(t, "the other", b, state{incarnation: 1, width: 4})
	puts(t, b, 0, 1, items(2), 2)
	want := state{incarnation: 1, width: 4, floors: map[int]uint64{0: 5}, windows: map[int]window.Window{0: win(1, 3)}, all: recs(0, items(1, 3)...)}
	holds(t, "the first", a, want.synced())
}
