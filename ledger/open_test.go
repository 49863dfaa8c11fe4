package ledger_test

import (
	"math"
	"slices"
	"testing"

	"sumpter/api"
	"sumpter/disk"
	"sumpter/ledger"
	"sumpter/seglog"
	"sumpter/span"
	"sumpter/window"
)

// fails looks whether Open answers that error, and writes nothing.
func fails(t *testing.T, what string, d *disk.Disk, c ledger.Conf, want api.Errno) {
	t.Helper()
	before, waits := d.Copy(), d.Waiting()
	if l, e := ledger.Open(d, c); e != want || l != nil {
		t.Fatalf("%s: Open is %v, error %d, want error %d", what, l, e, want)
	}
	if !disk.Same(d, before) || d.Waiting() != waits {
		t.Fatalf("%s: Open that is error %d wrote something", what, want)
	}
}

// P16.2: the width, then the log's errors.
func TestOpenArguments(t *testing.T) {
	other := laid(t, rec(9))
	broken := disk.New(1000)
	broken.Append(1, make([]byte, 12))
	for _, x := range []struct {
		what string
		d    *disk.Disk
		c    ledger.Conf
		want api.Errno
	}{
		{"width 0", disk.New(1000), ledger.Conf{Width: 0, Segment: 1}, api.ErrArg},
		{"width 1025", disk.New(1000), ledger.Conf{Width: api.MaxWindow + 1, Segment: 1}, api.ErrArg},
		{"the greatest width", disk.New(1000), ledger.Conf{Width: most, Segment: 1}, api.ErrArg},
		{"segment 0", disk.New(1000), ledger.Conf{Width: 4}, api.ErrArg},
		{"segment below 0", disk.New(1000), ledger.Conf{Width: 4, Segment: -1}, api.ErrArg},
		{"a zero Conf", disk.New(1000), ledger.Conf{}, api.ErrArg},
		{"no disk, a zero Conf", nil, ledger.Conf{}, api.ErrArg},
		{"no disk, width 0", nil, ledger.Conf{Segment: 1}, api.ErrArg},
		{"no disk, segment 0", nil, ledger.Conf{Width: 4}, api.ErrArg},
		{"no disk", nil, conf(4), api.ErrNone},
		{"a broken head", broken, conf(4), api.ErrSum},
		{"a broken head, width 0", broken, conf(0), api.ErrArg},
		{"a broken head, segment 0", broken, ledger.Conf{Width: 4}, api.ErrArg},
		{"another kind, width 0", other, conf(0), api.ErrArg},
		{"another kind", other, conf(4), api.ErrForm},
	} {
		if x.d == nil {
			if l, e := ledger.Open(nil, x.c); e != x.want || l != nil {
				t.Fatalf("%s: Open is %v, error %d, want error %d", x.what, l, e, x.want)
			}
			continue
		}
		fails(t, x.what, x.d, x.c, x.want)
	}
}

// P16.2: layer 7's errors of what a disk has, ahead of what its records tell.
func TestOpenNoLog(t *testing.T) {
	one := append(seglog.Head(1), seglog.Record(rec(1, 1))...)
	other := append(seglog.Head(1), seglog.Record(rec(9))...)
	turned := seglog.Record(rec(1, 2))
	turned[len(turned)-1] ^= 1
	for _, x := range []struct {
		what string
		p    [][]byte
		want api.Errno
	}{
		{"a head's sum", [][]byte{make([]byte, 12)}, api.ErrSum},
		{"a record's sum", [][]byte{one, turned}, api.ErrSum},
		{"another kind, then a record's sum", [][]byte{other, turned}, api.ErrSum},
		{"a head of number 0", [][]byte{seglog.Head(0)}, api.ErrForm},
		{"a head of 2^62", [][]byte{seglog.Head(1 << 62)}, api.ErrForm},
		{"too long a record", [][]byte{one, {0xff, 0xff, 0xff, 0x7f}}, api.ErrForm},
	} {
		d := disk.New(1000)
		d.Append(1, slices.Concat(x.p...))
		fails(t, x.what, d, conf(4), x.want)
	}
}

// P16.1, P16.2: of a new disk nothing is known but the incarnation, which is 1; that is told, and safe. Widths of 1 and of api.MaxWindow are such.
func TestOpenNew(t *testing.T) {
	for _, c := range []ledger.Conf{{Width: 1, Segment: 1}, {Width: 4, Segment: 100}, {Width: api.MaxWindow, Segment: math.MaxInt}} {
		d := disk.New(1000)
		l := opened(t, d, c)
		holds(t, "a new one", l, state{incarnation: 1, width: c.Width})
		wrote(t, "a new one", l, 1, rec(1, 1))
		if l.Log().Disk() != d || d.Waiting() != 0 || d.Used() != 12+8+2 {
			t.Fatalf("%d wait, %d are used", d.Waiting(), d.Used())
		}
		again(t, "a new one", l, 0, 0, c, state{incarnation: 1, width: c.Width})
	}
}

// P16.2: what is on the disk of a log of no records, or of an empty segment, is nothing.
func TestOpenEmpty(t *testing.T) {
	d := disk.New(1000)
	d.Append(3, seglog.Head(1)[:5])
	holds(t, "less than a head", opened(t, d, conf(4)), state{incarnation: 1, width: 4})
	d = disk.New(1000)
	d.Append(3, seglog.Head(7))
	l := opened(t, d, conf(4))
	holds(t, "a head alone", l, state{incarnation: 1, width: 4})
	wrote(t, "a head alone", l, 7, rec(1, 1))
}

// P16.2: what is torn at the log's end says nothing.
func TestOpenTorn(t *testing.T) {
	whole := seglog.Record(came(2, 1, items(1, 3)...))
	for n := range len(whole) {
		d := laid(t, rec(1, 1))
		d.Append(1, whole[:n])
		holds(t, "torn", opened(t, d, conf(4)), state{incarnation: 2, width: 4})
		holds(t, "torn, opened again", opened(t, d, conf(4)), state{incarnation: 3, width: 4})
	}
	d := laid(t, rec(1, 1))
	d.Append(1, whole)
	want := state{incarnation: 2, width: 4, windows: map[int]window.Window{2: win(1, 3)}, all: recs(2, items(1, 3)...)}
	holds(t, "whole", opened(t, d, conf(4)), want.synced())
}

// P16.1, P16.2: records of each kind, done one by one.
func TestOpenRecords(t *testing.T) {
	for _, x := range []struct {
		what    string
		records [][]byte
		want    state
	}{
		{"an incarnation", [][]byte{rec(1, 1)}, state{incarnation: 2}},
		{"incarnations", [][]byte{rec(1, 1), rec(1, 2), rec(1, 300)}, state{incarnation: 301}},
		{"the greatest incarnation", [][]byte{rec(1, tooGreat-1)}, state{incarnation: tooGreat}},
		{"floors", [][]byte{rec(2, 0, 1), rec(2, 15, tooGreat-1), rec(2, 3, 4), rec(2, 0, 7)}, state{
			incarnation: 1, floors: map[int]uint64{0: 7, 3: 4, 15: tooGreat - 1}}},
		{"a base alone", [][]byte{came(3, 9)}, state{incarnation: 1, windows: map[int]window.Window{3: win(8)}}},
		{"a base that moves nothing", [][]byte{came(3, 1), came(3, 0)}, state{incarnation: 1}},
		{"the greatest base", [][]byte{came(3, tooGreat-1)}, state{incarnation: 1, windows: map[int]window.Window{3: win(tooGreat - 2)}}},
		{"items", [][]byte{came(3, 1, items(2, 1, 5, 6)...)}, state{
			incarnation: 1, windows: map[int]window.Window{3: win(2, 5, 6)}, all: recs(3, items(2, 1, 5, 6)...)}},
		{"a base, and items that it makes room for", [][]byte{came(3, 100, items(103, 100)...)}, state{
			incarnation: 1, windows: map[int]window.Window{3: win(100, 103)}, all: recs(3, items(103, 100)...)}},
		{"items that make room for others", [][]byte{came(3, 1, items(1, 5, 2, 6)...)}, state{
			incarnation: 1, windows: map[int]window.Window{3: win(2, 5, 6)}, all: recs(3, items(1, 5, 2, 6)...)}},
		{"the greatest number", [][]byte{came(0, tooGreat-1, items(tooGreat-1)...)}, state{
			incarnation: 1, windows: map[int]window.Window{0: win(tooGreat - 1)}, all: recs(0, items(tooGreat-1)...)}},
		{"of two agents", [][]byte{came(3, 1, items(2)...), came(0, 1, items(1, 2)...), came(3, 1, items(1)...)}, state{
			incarnation: 1, windows: map[int]window.Window{0: win(2), 3: win(2)},
			all: slices.Concat(recs(3, items(2)...), recs(0, items(1, 2)...), recs(3, items(1)...))}},
		{"of all kinds", [][]byte{rec(2, 1, 1), came(1, 1, items(1)...), rec(1, 5), came(1, 3, items(4)...), rec(2, 1, 9)}, state{
			incarnation: 6, floors: map[int]uint64{1: 9}, windows: map[int]window.Window{1: win(2, 4)}, all: recs(1, items(1, 4)...)}},
	} {
		d := laid(t, x.records...)
		l := opened(t, d, conf(4))
		x.want.width = 4
		holds(t, x.what, l, x.want.synced())
		wrote(t, x.what, l, uint64(len(x.records))+1, rec(1, x.want.incarnation))
		if d.Waiting() != 0 {
			t.Errorf("%s: %d wait", x.what, d.Waiting())
		}
		if x.want.incarnation < tooGreat {
			again(t, x.what, l, 0, 0, conf(4), x.want)
		}
	}
}

// P16.1: a body is the record's, byte for byte; classes, too, and an empty body.
func TestOpenBodies(t *testing.T) {
	var list []span.Item
	for n := range uint64(8) {
		list = append(list, span.Item{Number: n + 1, Span: span.Span{Class: int(n), Body: []byte("0123456789")[:n]}})
	}
	long := span.Item{Number: 9, Span: span.Span{Class: 7, Body: make([]byte, api.MaxBody)}}
	l := opened(t, laid(t, came(0, 1, append(list, long)...)), conf(9))
	if got := l.Stored(); !alike(got, recs(0, append(list, long)...)) {
		t.Fatalf("Stored is %v", got)
	}
}

// P16.2: ErrForm of each record that isn't so written.
func TestOpenForm(t *testing.T) {
	long := span.Item{Number: 1, Span: span.Span{Body: make([]byte, api.MaxBody+1)}}
	none := span.Item{Number: 1, Span: span.Span{Class: api.MaxClasses}}
	over := []byte{0xff, 0xff, 0xff, 0xff, 0xff, 0xff, 0xff, 0xff, 0xff, 0x02}
	for what, p := range map[string][]byte{
		"nothing":                           {},
		"kind 0":                            rec(0, 1),
		"kind 4":                            rec(4, 1),
		"kind 255":                          rec(255, 1),
		"kind 2's first byte, written wide": {0x82, 0, 1, 1},
		"no incarnation":                    rec(1),
		"an incarnation cut short":          {1, 0x85},
		"an incarnation too wide":           {1, 0x85, 0},
		"more behind an incarnation":        rec(1, 5, 0),
		"incarnation 2^61":                  rec(1, tooGreat),
		"the greatest incarnation":          rec(1, most),
		"an incarnation beyond 64 bits":     append(rec(1), over...),
		"no agent":                          rec(2),
		"no epoch":                          rec(2, 1),
		"an agent too wide":                 {2, 0x81, 0, 9},
		"an epoch too wide":                 {2, 1, 0x89, 0},
		"an epoch cut short":                {2, 1, 0x89},
		"more behind an epoch":              rec(2, 1, 9, 9),
		"a floor of agent 16":               rec(2, 16, 9),
		"a floor of agent 2^61":             rec(2, tooGreat, 9),
		"a floor of the greatest agent":     rec(2, most, 9),
		"a floor of an agent beyond 64":     append(append(rec(2), over...), 9),
		"epoch 2^61":                        rec(2, 1, tooGreat),
		"the greatest epoch":                rec(2, 1, most),
		"an epoch beyond 64 bits":           append(rec(2, 1), over...),
		"epoch 0":                           rec(2, 1, 0),
		"items of no agent":                 rec(3),
		"items of agent 16":                 came(16, 1, items(1)...),
		"nothing of agent 16":               came(16, 1),
		"no base":                           rec(3, 1),
		"base 2^61":                         rec(3, 1, tooGreat, 0),
		"the greatest base":                 rec(3, 1, most, 0),
		"a base too wide":                   {3, 1, 0x81, 0, 0},
		"no count":                          rec(3, 1, 1),
		"a count too wide":                  {3, 1, 1, 0x80, 0},
		"a count beyond 64 bits":            append(rec(3, 1, 1), over...),
		"one item that isn't there":         rec(3, 1, 1, 1),
		"a count that is far too great":     rec(3, 1, 1, most),
		"a count of 2^63":                   append(rec(3, 1, 1, 1<<63), items(1)[0].Put(nil)...),
		"a count one too great":             append(rec(3, 1, 1, 2), items(1)[0].Put(nil)...),
		"a count one too small":             append(rec(3, 1, 1, 0), items(1)[0].Put(nil)...),
		"more behind an item":               append(came(1, 1, items(1)...), 0),
		"an item's body cut short":          came(1, 1, items(1)...)[:9],
		"an item without a body":            rec(3, 1, 1, 1, 1, 0),
		"an item without a class":           rec(3, 1, 1, 1, 1),
		"an item's number too wide":         {3, 1, 1, 1, 0x81, 0, 0, 0},
		"an item's body's count too wide":   {3, 1, 1, 1, 1, 0, 0x80, 0},
		"class 8":                           came(1, 1, none),
		"class 255":                         {3, 1, 1, 1, 1, 255, 0},
		"too long a body":                   came(1, 1, long),
		"an item's number 2^61":             came(1, tooGreat-1, items(tooGreat)...),
		"an item's number 0":                came(1, 0, items(0)...),
		"the greatest number of an item":    came(1, 1, items(most)...),
	} {
		for _, ahead := range [][][]byte{{}, {rec(1, 1)}, {rec(1, 1), came(1, 0), rec(2, 1, 1)}} {
			fails(t, what, laid(t, append(slices.Clone(ahead), p)...), conf(4), api.ErrForm)
			// Whatever comes behind it.
			fails(t, what, laid(t, append(slices.Clone(ahead), p, rec(1, 7))...), conf(4), api.ErrForm)
		}
	}
}

// P16.2: ErrForm of incarnations and floors that don't grow.
func TestOpenGrows(t *testing.T) {
	for what, l := range map[string][][]byte{
		"incarnation 0":           {rec(1, 0)},
		"an incarnation again":    {rec(1, 5), rec(1, 5)},
		"a lesser incarnation":    {rec(1, 5), rec(1, 6), rec(1, 4)},
		"the same behind another": {rec(1, 1), came(1, 5), rec(1, 1)},
		"floor 0":                 {rec(2, 1, 0)},
		"a floor again":           {rec(2, 1, 5), rec(2, 1, 5)},
		"a lesser floor":          {rec(2, 1, 5), rec(2, 3, 4), rec(2, 1, 4)},
	} {
		fails(t, what, laid(t, l...), conf(4), api.ErrForm)
	}
	want := state{incarnation: 2, width: 4, floors: map[int]uint64{1: 5, 2: 5, 3: 4}}
	holds(t, "of others", opened(t, laid(t, rec(2, 1, 5), rec(1, 1), rec(2, 2, 5), rec(2, 3, 4)), conf(4)), want)
}

// P16.2: ErrForm of items that the window doesn't take when it comes to them.
func TestOpenWindow(t *testing.T) {
	for what, l := range map[string][][]byte{
		"twice in a record":          {came(1, 1, items(2, 2)...)},
		"twice in two":               {came(1, 1, items(2)...), came(1, 1, items(2)...)},
		"beyond the window":          {came(1, 1, items(5)...)},
		"beyond it, till later":      {came(1, 1, items(5, 1)...)},
		"far beyond it":              {came(1, 1, items(1, tooGreat-1)...)},
		"below the base":             {came(1, 3, items(2)...)},
		"below a base ahead":         {came(1, 3), came(1, 1, items(2)...)},
		"below what is done":         {came(1, 1, items(1, 2)...), came(1, 1, items(3, 1)...)},
		"the last one of many":       {came(1, 1, items(1, 2, 3, 4, 5, 6, 3)...)},
		"the base doesn't make room": {came(1, 2, items(6)...)},
	} {
		fails(t, what, laid(t, l...), conf(4), api.ErrForm)
	}
	// The window is as wide as it is opened with.
	d := laid(t, came(1, 1, items(5)...))
	fails(t, "width 4", d, conf(4), api.ErrForm)
	l := opened(t, d, conf(5))
	if w := l.Window(1); !w.Had(5) || w.Width != 5 {
		t.Fatalf("width 5: %v", w)
	}
}

// P16.2: ErrFull, and no ledger, if there isn't room for the incarnation, or the disk is Full.
func TestOpenFull(t *testing.T) {
	for room := range 22 {
		fails(t, "no room", disk.New(room), conf(4), api.ErrFull)
	}
	holds(t, "just room", opened(t, disk.New(22), conf(4)), state{incarnation: 1, width: 4})
	d := laid(t, rec(1, 4), came(1, 1, items(1)...))
	d.Full(true)
	fails(t, "full", d, conf(4), api.ErrFull)
	d.Full(false)
	want := state{incarnation: 5, width: 4, windows: map[int]window.Window{1: win(1)}, all: recs(1, items(1)...)}
	holds(t, "full no more", opened(t, d, conf(4)), want.synced())
}
