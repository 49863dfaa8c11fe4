package ledger_test

import (
	"math"
	"slices"
	"testing"

	"sumpter/api"
	"sumpter/disk"
	"sumpter/ledger"
	"sumpter/pack"
	"sumpter/runs"
	"sumpter/seglog"
	"sumpter/span"
	"sumpter/window"
)

const (
	// most is the greatest number, tooGreat the least that no record tells.
	most     = math.MaxUint64
	tooGreat = 1 << 61
)

// conf answers a conf of this width, all in one segment.
func conf(width uint64) ledger.Conf {
	return ledger.Conf{Width: width, Segment: 1 << 20}
}

// opened answers the ledger that a disk has.
func opened(t *testing.T, d *disk.Disk, c ledger.Conf) *ledger.Ledger {
	t.Helper()
	l, e := ledger.Open(d, c)
	if e != api.OK || l == nil {
		t.Fatalf("Open is %v, error %d", l, e)
	}
	return l
}

// item answers an item of class 1.
func item(number uint64, body string) span.Item {
	return span.Item{Number: number, Span: span.Span{Class: 1, Body: []byte(body)}}
}

// items answers items of these numbers, with bodies of their own.
func items(numbers ...uint64) []span.Item {
	var l []span.Item
	for _, n := range numbers {
		l = append(l, item(n, "body"+string(rune('a'+n%26))))
	}
	return l
}

// recs answers what came, if these items of an agent did.
func recs(agent int, l ...span.Item) []ledger.Rec {
	var out []ledger.Rec
	for _, i := range l {
		out = append(out, ledger.Rec{ID: span.ID{Agent: agent, Number: i.Number}, Span: i.Span})
	}
	return out
}

// win answers a window of width 4.
func win(low uint64, set ...uint64) window.Window {
	return window.Window{Low: low, Width: 4, Set: runs.Of(set...)}
}

// rec answers a record of a kind, and numbers behind it.
func rec(kind byte, numbers ...uint64) []byte {
	p := []byte{kind}
	for _, n := range numbers {
		p = pack.Num(p, n)
	}
	return p
}

// came answers a record 3.
func came(agent int, base uint64, l ...span.Item) []byte {
	p := rec(3, uint64(agent), base, uint64(len(l)))
	for _, i := range l {
		p = i.Put(p)
	}
	return p
}

// state is what a ledger tells; who isn't in a map has floor 0, or a window in which nothing is done.
type state struct {
	incarnation   uint64
	width         uint64
	floors        map[int]uint64
	windows, safe map[int]window.Window
	all, stored   []ledger.Rec
}

// alike tells whether two lists are of the same spans, in the same order.
func alike(a, b []ledger.Rec) bool {
	return slices.EqualFunc(a, b, func(x, y ledger.Rec) bool { return x.ID == y.ID && span.Same(x.Span, y.Span) })
}

// windowed looks whether a window is as told.
func windowed(t *testing.T, what string, agent int, got window.Window, want map[int]window.Window, width uint64) {
	t.Helper()
	x, ok := want[agent]
	if !ok {
		x = window.New(width)
	}
	if !window.Same(got, x) || !got.Right() {
		t.Fatalf("%s: of agent %d the window is %d, %v, want %d, %v", what, agent, got.Low, got.Set.Runs(), x.Low, x.Set.Runs())
	}
}

// holds looks whether a ledger tells just that.
func holds(t *testing.T, what string, l *ledger.Ledger, want state) {
	t.Helper()
	if got := l.Incarnation(); got != want.incarnation {
		t.Fatalf("%s: Incarnation is %d, want %d", what, got, want.incarnation)
	}
	for agent := range api.MaxAgents {
		if got := l.Floor(agent); got != want.floors[agent] {
			t.Fatalf("%s: Floor of %d is %d, want %d", what, agent, got, want.floors[agent])
		}
		windowed(t, what, agent, l.Window(agent), want.windows, want.width)
		windowed(t, what+", safe", agent, l.Safe(agent), want.safe, want.width)
	}
	if got := l.All(); !alike(got, want.all) {
		t.Fatalf("%s: All is %v, want %v", what, got, want.all)
	}
	if got := l.Stored(); !alike(got, want.stored) {
		t.Fatalf("%s: Stored is %v, want %v", what, got, want.stored)
	}
	gets(t, what, l, want.all)
	nobody(t, what, l)
}

// gets looks whether Get answers these, and none else around them.
func gets(t *testing.T, what string, l *ledger.Ledger, all []ledger.Rec) {
	t.Helper()
	there := map[span.ID]span.Span{}
	for _, r := range all {
		there[r.ID] = r.Span
	}
	ask := []span.ID{{}, {Agent: 1, Number: 1}, {Agent: -1, Number: 1}, {Agent: 16, Number: 1}, {Number: most}}
	for id := range there {
		ask = append(ask, id, span.ID{Agent: id.Agent + 1, Number: id.Number}, span.ID{Agent: id.Agent, Number: id.Number + 1})
	}
	for _, id := range ask {
		want, ok := there[id]
		if got, k := l.Get(id); k != ok || !span.Same(got, want) {
			t.Fatalf("%s: Get of %v is %v, %v, want %v, %v", what, id, got, k, want, ok)
		}
	}
}

// nobody looks whether of agents that there aren't nothing is told.
func nobody(t *testing.T, what string, l *ledger.Ledger) {
	t.Helper()
	for _, agent := range []int{-1, api.MaxAgents, math.MinInt, math.MaxInt} {
		if l.Floor(agent) != 0 || !window.Same(l.Window(agent), window.Window{}) || !window.Same(l.Safe(agent), window.Window{}) {
			t.Fatalf("%s: of agent %d: %d, %v, %v", what, agent, l.Floor(agent), l.Window(agent), l.Safe(agent))
		}
	}
}

// synced answers the same, once all is safe.
func (x state) synced() state {
	x.safe, x.stored = x.windows, x.all
	return x
}

// reopened answers what is told behind another Open.
func (x state) reopened() state {
	x.incarnation++
	return x.synced()
}

// again looks whether a ledger on what a crash leaves tells that.
func again(t *testing.T, what string, l *ledger.Ledger, keep, torn int, c ledger.Conf, want state) {
	t.Helper()
	holds(t, what+", again", opened(t, l.Log().Disk().Crash(keep, torn), c), want.reopened())
}

// puts looks whether just these numbers are taken, in this order.
func puts(t *testing.T, l *ledger.Ledger, agent int, base uint64, list []span.Item, want ...uint64) {
	t.Helper()
	if got, e := l.Put(agent, base, list); e != api.OK || !slices.Equal(got, want) {
		t.Fatalf("Put(%d, %d, %v) is %v, error %d, want %v", agent, base, list, got, e, want)
	}
}

// refuses looks whether a Put has that error.
func refuses(t *testing.T, l *ledger.Ledger, agent int, base uint64, list []span.Item, want api.Errno) {
	t.Helper()
	if got, e := l.Put(agent, base, list); e != want || len(got) != 0 {
		t.Fatalf("Put(%d, %d, %d items) is %v, error %d, want error %d", agent, base, len(list), got, e, want)
	}
}

// raises looks whether a Raise has that error.
func raises(t *testing.T, l *ledger.Ledger, agent int, epoch uint64, want api.Errno) {
	t.Helper()
	if e := l.Raise(agent, epoch); e != want {
		t.Fatalf("Raise(%d, %d) is error %d, want %d", agent, epoch, e, want)
	}
}

// syncs makes all safe.
func syncs(t *testing.T, l *ledger.Ledger) {
	t.Helper()
	if e := l.Sync(); e != api.OK || l.Log().Disk().Waiting() != 0 {
		t.Fatalf("Sync is error %d, %d wait", e, l.Log().Disk().Waiting())
	}
}

// wrote looks whether the log's last record is that, of that number.
func wrote(t *testing.T, what string, l *ledger.Ledger, number uint64, want []byte) {
	t.Helper()
	got, e := l.Log().Get(number)
	if e != api.OK || !slices.Equal(got, want) || l.Log().Next() != number+1 {
		t.Fatalf("%s: record %d of %d is %x, error %d, want %x", what, number, l.Log().Next()-1, got, e, want)
	}
}

// P16.2, P16.3: the chapter's example.
func TestExample(t *testing.T) {
	l := opened(t, disk.New(1000), conf(4))
	if l.Incarnation() != 1 {
		t.Fatalf("Incarnation is %d", l.Incarnation())
	}
	puts(t, l, 0, 1, items(1, 3), 1, 3)
	puts(t, l, 0, 1, items(1, 3))
}

// P16.1, P16.3: Raise to lesser, equal and greater epochs, of each agent by itself; each one that is raised is a record.
func TestRaise(t *testing.T) {
	l := opened(t, disk.New(10000), conf(4))
	want := state{incarnation: 1, width: 4, floors: map[int]uint64{}}
	number := uint64(1)
	for _, x := range []struct {
		agent int
		epoch uint64
		want  api.Errno
	}{
		{2, 0, api.ErrOld}, {2, 1, api.OK}, {2, 1, api.ErrOld}, {2, 0, api.ErrOld}, {2, 5, api.OK}, {2, 4, api.ErrOld}, {2, 5, api.ErrOld},
		{2, 6, api.OK}, {3, 5, api.OK}, {0, 300, api.OK}, {0, 0, api.ErrOld}, {15, tooGreat - 1, api.OK}, {15, tooGreat - 1, api.ErrOld},
		{15, tooGreat, api.ErrArg}, {15, most, api.ErrArg}, {1, tooGreat, api.ErrArg}, {16, 1, api.ErrArg}, {16, 0, api.ErrArg},
		{-1, 1, api.ErrArg}, {-1, 0, api.ErrArg}, {math.MinInt, 7, api.ErrArg}, {math.MaxInt, 7, api.ErrArg}, {99, most, api.ErrArg},
	} {
		raises(t, l, x.agent, x.epoch, x.want)
		if x.want == api.OK {
			want.floors[x.agent] = x.epoch
			number++
			wrote(t, "raised", l, number, rec(2, uint64(x.agent), x.epoch))
		}
		holds(t, "raised", l, want)
		if l.Log().Next() != number+1 || l.Log().Disk().Waiting() != int(number-1) {
			t.Fatalf("behind Raise(%d, %d): %d records, %d wait", x.agent, x.epoch, l.Log().Next()-1, l.Log().Disk().Waiting())
		}
	}
	again(t, "raised", l, 99, 0, conf(4), want)
	again(t, "nothing is safe", l, 0, 0, conf(4), state{incarnation: 1, width: 4})
}

// P16.3: which items are taken, in their order, and the record of these alone.
func TestPut(t *testing.T) {
	l := opened(t, disk.New(10000), conf(4))
	want := state{incarnation: 1, width: 4, windows: map[int]window.Window{}}
	number := uint64(1)
	for _, x := range []struct {
		what   string
		agent  int
		base   uint64
		items  []span.Item
		taken  []span.Item
		window window.Window
	}{
		{"out of order", 2, 1, items(2, 1, 6, 7), items(2, 1, 6), win(2, 6)},
		{"those that came already", 2, 1, items(1, 2, 6), nil, win(2, 6)},
		{"none, and a base that moves nothing", 2, 3, nil, nil, win(2, 6)},
		{"base 0", 2, 0, nil, nil, win(2, 6)},
		{"number 0", 2, 1, items(0), nil, win(2, 6)},
		{"beyond the window", 2, 1, items(7, 8, 1<<40, tooGreat-1), nil, win(2, 6)},
		{"twice in one list", 2, 1, items(4, 4, 3, 4, 3), items(4, 3), win(4, 6)},
		{"beyond the window till it moves", 2, 1, items(9, 5, 9, 10, 11), items(5, 9, 10), win(6, 9, 10)},
		{"one that came, with another body", 2, 1, []span.Item{item(5, "other"), item(9, "other")}, nil, win(6, 9, 10)},
		{"no items, and a base that moves the window", 2, 8, nil, nil, win(7, 9, 10)},
		{"items below the base", 2, 9, items(7, 8), nil, win(10)},
		{"below the base, and above it", 2, 13, items(12, 11, 13, 16, 17, 18), items(13, 16, 17), win(13, 16, 17)},
		{"far beyond the window till it Skips", 2, 1000, items(999, 1000, 1002, 1004, 1005), items(1000, 1002, 1004), win(1000, 1002, 1004)},
		{"another agent's", 0, 1, items(1, 2, 3, 4, 5), items(1, 2, 3, 4, 5), win(5)},
		{"the last agent's", 15, 1, items(1), items(1), win(1)},
		{"the greatest numbers", 15, tooGreat - 1, items(tooGreat-2, tooGreat-1), items(tooGreat - 1), win(tooGreat - 1)},
		{"behind these", 15, 1, items(1, 2), nil, win(tooGreat - 1)},
		{"base 2^61 - 1 again", 15, tooGreat - 1, nil, nil, win(tooGreat - 1)},
	} {
		before := l.Window(x.agent)
		var numbers []uint64
		for _, i := range x.taken {
			numbers = append(numbers, i.Number)
		}
		puts(t, l, x.agent, x.base, x.items, numbers...)
		want.windows[x.agent] = x.window
		want.all = append(want.all, recs(x.agent, x.taken...)...)
		if len(numbers) > 0 || !window.Same(before, x.window) {
			number++
			wrote(t, x.what, l, number, came(x.agent, x.base, x.taken...))
		}
		if l.Log().Next() != number+1 || l.Log().Disk().Waiting() != int(number-1) {
			t.Fatalf("%s: %d records, %d wait", x.what, l.Log().Next()-1, l.Log().Disk().Waiting())
		}
		holds(t, x.what, l, want)
		again(t, x.what, l, 99, 0, conf(4), want)
	}
	syncs(t, l)
	holds(t, "safe", l, want.synced())
}

// P16.3: ErrArg of agents that there aren't, too great numbers, and items that aren't Right, wherever these stand; nothing is taken.
func TestPutWrong(t *testing.T) {
	l := opened(t, disk.New(10000), conf(4))
	puts(t, l, 1, 1, items(1, 3), 1, 3)
	want := state{incarnation: 1, width: 4, windows: map[int]window.Window{1: win(1, 3)}, all: recs(1, items(1, 3)...)}
	with := func(x span.Span) []span.Item { return []span.Item{item(2, "b"), {Number: 4, Span: x}, item(5, "e")} }
	for _, x := range []struct {
		what  string
		agent int
		base  uint64
		items []span.Item
	}{
		{"agent -1", -1, 1, items(2)},
		{"agent 16", 16, 1, items(2)},
		{"the least agent", math.MinInt, 1, nil},
		{"the greatest agent", math.MaxInt, 1, nil},
		{"base 2^61", 1, tooGreat, nil},
		{"the greatest base", 1, most, items(2)},
		{"an item's number 2^61", 1, 1, items(2, tooGreat)},
		{"the greatest number", 1, 1, items(most, 2)},
		{"a class below 0", 1, 1, with(span.Span{Class: -1})},
		{"class 8", 1, 1, with(span.Span{Class: api.MaxClasses})},
		{"too long a body", 1, 1, with(span.Span{Body: make([]byte, api.MaxBody+1)})},
		{"of one that came already", 1, 1, []span.Item{{Number: 1, Span: span.Span{Class: 9}}}},
		{"of one beyond the window", 1, 1, []span.Item{item(2, "b"), {Number: 99, Span: span.Span{Class: -9}}}},
		{"all at once", 16, most, []span.Item{{Number: most, Span: span.Span{Class: 9}}}},
	} {
		refuses(t, l, x.agent, x.base, x.items, api.ErrArg)
		holds(t, x.what, l, want)
		if l.Log().Next() != 3 {
			t.Fatalf("%s: %d records", x.what, l.Log().Next()-1)
		}
	}
	// Each class, and the longest body, are Right.
	l = opened(t, disk.New(100000), conf(100))
	for class := range api.MaxClasses {
		i := span.Item{Number: uint64(class) + 1, Span: span.Span{Class: class, Body: make([]byte, api.MaxBody)}}
		puts(t, l, 0, 1, []span.Item{i}, i.Number)
		if got, ok := l.Get(span.ID{Number: i.Number}); !ok || !span.Same(got, i.Span) {
			t.Fatalf("class %d: %d, %d bytes, %v", class, got.Class, len(got.Body), ok)
		}
	}
	opened(t, l.Log().Disk(), conf(100))
}

// P16.3: on a full disk nothing is taken, nor raised; and what needs no record has no error.
func TestFull(t *testing.T) {
	l := opened(t, disk.New(10000), conf(4))
	puts(t, l, 1, 1, items(1, 3), 1, 3)
	raises(t, l, 1, 5, api.OK)
	want := state{incarnation: 1, width: 4, floors: map[int]uint64{1: 5}, windows: map[int]window.Window{1: win(1, 3)}, all: recs(1, items(1, 3)...)}
	d := l.Log().Disk()
	d.Full(true)
	refuses(t, l, 1, 1, items(2), api.ErrFull)
	refuses(t, l, 1, 3, nil, api.ErrFull)
	refuses(t, l, 1, 1, items(tooGreat), api.ErrArg)
	puts(t, l, 1, 1, items(1, 3, 99))
	puts(t, l, 1, 2, nil)
	raises(t, l, 1, 6, api.ErrFull)
	raises(t, l, 1, 5, api.ErrOld)
	raises(t, l, 1, tooGreat, api.ErrArg)
	raises(t, l, 16, 6, api.ErrArg)
	holds(t, "full", l, want)
	syncs(t, l)
	holds(t, "full, safe", l, want.synced())
	d.Full(false)
	again(t, "full no more", l, 0, 0, conf(4), want)
	puts(t, l, 1, 3, items(4), 4)
	raises(t, l, 1, 6, api.OK)
}

// P16.3: without room the error is ErrFull, too, and what is less than that goes.
func TestNoRoom(t *testing.T) {
	l := opened(t, disk.New(12+8+2+8+9), conf(4))
	refuses(t, l, 0, 1, []span.Item{item(1, "abc")}, api.ErrFull)
	holds(t, "no room", l, state{incarnation: 1, width: 4})
	puts(t, l, 0, 1, []span.Item{item(1, "ab")}, 1)
	refuses(t, l, 0, 1, []span.Item{item(2, "")}, api.ErrFull)
	raises(t, l, 0, 1, api.ErrFull)
	want := state{incarnation: 1, width: 4, windows: map[int]window.Window{0: win(1)}, all: recs(0, item(1, "ab"))}
	holds(t, "no room", l, want)
}

// P16.3: more than a record has room for is ErrLong, and nothing is taken; what isn't taken doesn't count.
func TestLong(t *testing.T) {
	l := opened(t, disk.New(1<<23), conf(api.MaxWindow))
	var list []span.Item
	for n := range uint64(256) {
		list = append(list, span.Item{Number: n + 1, Span: span.Span{Body: make([]byte, api.MaxBody)}})
	}
	refuses(t, l, 0, 1, list, api.ErrLong)
	holds(t, "too long", l, state{incarnation: 1, width: api.MaxWindow})
	if got, e := l.Put(0, 1, list[:255]); e != api.OK || len(got) != 255 {
		t.Fatalf("Put is %d, error %d", len(got), e)
	}
	puts(t, l, 0, 1, list, 256)
	if w := l.Window(0); w.Low != 256 || len(l.All()) != 256 {
		t.Fatalf("Low is %d", w.Low)
	}
}

// P16.4: what Sync makes safe, and that all that comes behind it isn't.
func TestSync(t *testing.T) {
	l := opened(t, disk.New(10000), conf(4))
	syncs(t, l)
	puts(t, l, 1, 1, items(1, 3), 1, 3)
	puts(t, l, 0, 1, items(2), 2)
	raises(t, l, 1, 7, api.OK)
	first := state{
		incarnation: 1, width: 4, floors: map[int]uint64{1: 7}, windows: map[int]window.Window{0: win(0, 2), 1: win(1, 3)},
		all: append(recs(1, items(1, 3)...), recs(0, items(2)...)...),
	}
	holds(t, "nothing is safe", l, first)
	syncs(t, l)
	first = first.synced()
	holds(t, "all is safe", l, first)
	puts(t, l, 1, 1, items(2, 4), 2, 4)
	puts(t, l, 0, 2, nil)
	puts(t, l, 9, 1, items(4), 4)
	second := first
	second.windows = map[int]window.Window{0: win(2), 1: win(4), 9: win(0, 4)}
	second.all = append(slices.Clone(first.all), append(recs(1, items(2, 4)...), recs(9, items(4)...)...)...)
	holds(t, "some is safe", l, second)
	again(t, "some is safe", l, 0, 0, conf(4), first)
	syncs(t, l)
	holds(t, "all is safe", l, second.synced())
	again(t, "all is safe", l, 0, 0, conf(4), second)
}

// P16.4: Log is that very one, and its disk is that which was opened.
func TestLog(t *testing.T) {
	d := disk.New(1000)
	l := opened(t, d, ledger.Conf{Width: 4, Segment: 1})
	log := l.Log()
	puts(t, l, 0, 1, items(1), 1)
	if log == nil || l.Log() != log || log.Disk() != d || log.Next() != 3 || log.Segs() != 2 {
		t.Errorf("Log is another one")
	}
}

// P16.4, P1: of a nil ledger.
func TestNil(t *testing.T) {
	var l *ledger.Ledger
	for _, agent := range []int{-1, 0, 5, 16} {
		raises(t, l, agent, 1, api.ErrNone)
		raises(t, l, agent, most, api.ErrNone)
		refuses(t, l, agent, 1, items(1), api.ErrNone)
		refuses(t, l, agent, most, []span.Item{{Number: most, Span: span.Span{Class: -1}}}, api.ErrNone)
		if l.Floor(agent) != 0 || !window.Same(l.Window(agent), window.Window{}) || !window.Same(l.Safe(agent), window.Window{}) {
			t.Errorf("of agent %d something is told", agent)
		}
	}
	if e := l.Sync(); e != api.ErrNone {
		t.Errorf("Sync is error %d", e)
	}
	if l.Incarnation() != 0 || l.Stored() != nil || l.All() != nil || l.Log() != nil {
		t.Errorf("%d, %v, %v, %v", l.Incarnation(), l.Stored(), l.All(), l.Log())
	}
	gets(t, "nil", l, nil)
}

// P1, P16.3: lists far longer than the window, of which all are taken as it moves.
func TestMany(t *testing.T) {
	const many = 50000
	l := opened(t, disk.New(1<<22), conf(api.MaxWindow))
	var list []span.Item
	for n := range uint64(many) {
		list = append(list, span.Item{Number: n + 1})
	}
	if got, e := l.Put(3, 1, list); e != api.OK || len(got) != many {
		t.Fatalf("%d are taken, error %d", len(got), e)
	}
	slices.Reverse(list)
	puts(t, l, 4, 1, list, slices.Collect(func(yield func(uint64) bool) {
		for n := uint64(api.MaxWindow); n > 0 && yield(n); n-- {
		}
	})...)
	x := opened(t, l.Log().Disk(), conf(api.MaxWindow))
	if x.Window(3).Low != many || x.Window(4).Low != api.MaxWindow || len(x.Stored()) != many+api.MaxWindow || !alike(x.Stored(), l.All()) {
		t.Fatalf("Low is %d, %d, %d are stored", x.Window(3).Low, x.Window(4).Low, len(x.Stored()))
	}
	if log := opened(t, l.Log().Disk(), conf(api.MaxWindow)).Log(); log == nil || log.Next() != 6 {
		t.Fatalf("%d records", log.Next()-1)
	}
}

// laid answers a disk with a log of these records, all safe.
func laid(t *testing.T, records ...[]byte) *disk.Disk {
	t.Helper()
	d := disk.New(1 << 22)
	l, e := seglog.Open(d, math.MaxInt)
	for _, p := range records {
		if e == api.OK {
			_, e = l.Append(p)
		}
	}
	if e != api.OK {
		t.Fatalf("laying a log is error %d", e)
	}
	d.Sync()
	return d
}
