package disk_test

import (
	"bytes"
	"maps"
	"math"
	"math/rand"
	"slices"
	"testing"

	"sumpter/api"
	"sumpter/disk"
)

const most = math.MaxUint64

// does looks whether a call answers OK.
func does(t *testing.T, what string, e api.Errno) {
	t.Helper()
	if e != api.OK {
		t.Fatalf("%s answers error %d", what, e)
	}
}

// put appends to a segment, which must succeed.
func put(t *testing.T, d *disk.Disk, seg uint64, p string) {
	t.Helper()
	does(t, "Append", d.Append(seg, []byte(p)))
}

// holds looks whether a disk has just these segments, by all that it tells of them.
func holds(t *testing.T, what string, d *disk.Disk, want map[uint64]string) {
	t.Helper()
	numbers := slices.Sorted(maps.Keys(want))
	if got := d.Segs(); !slices.Equal(got, numbers) {
		t.Fatalf("%s: Segs are %v, want %v", what, got, numbers)
	}
	used := 0
	for seg, p := range want {
		used += len(p)
		if got, e := d.Read(seg); e != api.OK || string(got) != p {
			t.Fatalf("%s: Read(%d) is %q, %d, want %q", what, seg, got, e, p)
		}
	}
	if got := d.Used(); got != used {
		t.Fatalf("%s: Used is %d, want %d", what, got, used)
	}
	for _, seg := range []uint64{0, 1, 2, 3, 4, 99, most} {
		if _, ok := want[seg]; ok {
			continue
		}
		if got, e := d.Read(seg); e != api.ErrNone || got != nil {
			t.Fatalf("%s: Read(%d), which isn't there, is %q, %d", what, seg, got, e)
		}
	}
}

// P6.1: the room, and a new disk.
func TestNew(t *testing.T) {
	for _, x := range []struct{ room, want int }{{0, 0}, {1, 1}, {10, 10}, {-1, 0}, {math.MinInt, 0}, {math.MaxInt, math.MaxInt}} {
		d := disk.New(x.room)
		if d.Room() != x.want || d.Waiting() != 0 {
			t.Errorf("New(%d): Room is %d, %d wait", x.room, d.Room(), d.Waiting())
		}
		holds(t, "a new disk", d, nil)
	}
}

// P6.1: appended bytes come behind those that are there, of that segment alone.
func TestAppend(t *testing.T) {
	d := disk.New(100)
	put(t, d, 2, "ab")
	holds(t, "one", d, map[uint64]string{2: "ab"})
	put(t, d, 2, "cd")
	put(t, d, most, "m")
	put(t, d, 0, "zero")
	put(t, d, 2, "e")
	holds(t, "some", d, map[uint64]string{0: "zero", 2: "abcde", most: "m"})
	if d.Room() != 100 {
		t.Errorf("Room is %d", d.Room())
	}
}

// P6.1: no bytes appended begin a segment, and leave one as it is; both wait.
func TestAppendNothing(t *testing.T) {
	for _, none := range [][]byte{nil, {}} {
		for _, room := range []int{-1, 0, 2} {
			d := disk.New(room)
			does(t, "Append", d.Append(3, none))
			holds(t, "begun", d, map[uint64]string{3: ""})
			does(t, "Append", d.Append(3, none))
			holds(t, "once more", d, map[uint64]string{3: ""})
			if d.Waiting() != 2 {
				t.Errorf("%d wait", d.Waiting())
			}
			does(t, "Drop", d.Drop(3))
			holds(t, "dropped", d, nil)
		}
	}
	d := disk.New(2)
	put(t, d, 1, "ab")
	put(t, d, 1, "")
	put(t, d, 2, "")
	holds(t, "at the room's end", d, map[uint64]string{1: "ab", 2: ""})
	put(t, d, 3, "")
	if d.Append(3, []byte("x")) != api.ErrFull {
		t.Error("a byte too many")
	}
}

// P6.1: segments may have as many bytes as the room together, and not one more; dropping makes room.
func TestRoom(t *testing.T) {
	d := disk.New(5)
	put(t, d, 1, "abc")
	put(t, d, 2, "de")
	full := map[uint64]string{1: "abc", 2: "de"}
	for _, seg := range []uint64{1, 2, 3} {
		for _, p := range []string{"x", "xyz", string(make([]byte, 1000))} {
			if e := d.Append(seg, []byte(p)); e != api.ErrFull {
				t.Errorf("Append of %d more is %d", len(p), e)
			}
			holds(t, "nothing has changed", d, full)
			if d.Waiting() != 2 {
				t.Errorf("%d wait", d.Waiting())
			}
		}
	}
	does(t, "Drop", d.Drop(1))
	if e := d.Append(2, []byte("4444")); e != api.ErrFull {
		t.Errorf("Append of one too many is %d", e)
	}
	put(t, d, 2, "333")
	holds(t, "dropped and appended", d, map[uint64]string{2: "de333"})
	for _, room := range []int{0, -7} {
		if e := disk.New(room).Append(1, []byte("x")); e != api.ErrFull {
			t.Errorf("Append at room %d is %d", room, e)
		}
	}
	great := disk.New(math.MaxInt)
	put(t, great, 1, "a")
	put(t, great, 2, "b")
	holds(t, "the greatest room", great, map[uint64]string{1: "a", 2: "b"})
}

// P6.1: a disk that was told to be full takes nothing, not even no bytes, till it was told otherwise; all else it does.
func TestFull(t *testing.T) {
	d := disk.New(50)
	put(t, d, 1, "ab")
	put(t, d, 2, "cd")
	d.Full(true)
	d.Full(true)
	for _, seg := range []uint64{1, 3} {
		for _, p := range []string{"", "x", string(make([]byte, 100))} {
			if e := d.Append(seg, []byte(p)); e != api.ErrFull {
				t.Errorf("Append of %d bytes to a full disk is %d", len(p), e)
			}
		}
	}
	if e := d.Append(4, nil); e != api.ErrFull || d.Waiting() != 2 || d.Room() != 50 {
		t.Errorf("Append of nil is %d, %d wait, Room is %d", e, d.Waiting(), d.Room())
	}
	holds(t, "nothing has changed", d, map[uint64]string{1: "ab", 2: "cd"})
	does(t, "Sync", d.Sync())
	does(t, "Drop", d.Drop(1))
	holds(t, "dropped", d, map[uint64]string{2: "cd"})
	if d.Append(1, []byte("x")) != api.ErrFull {
		t.Error("dropping makes it less full")
	}
	d.Full(false)
	put(t, d, 1, "x")
	put(t, d, 3, "")
	holds(t, "not full", d, map[uint64]string{1: "x", 2: "cd", 3: ""})
	d.Full(true)
	d.Full(false)
	put(t, d, 3, "y")
}

// P6.1: a dropped segment is gone, and begins anew; of one that isn't there it is an error, and nothing changes.
func TestDrop(t *testing.T) {
	d := disk.New(50)
	if e := d.Drop(1); e != api.ErrNone || d.Waiting() != 0 {
		t.Errorf("Drop of none is %d, %d wait", e, d.Waiting())
	}
	put(t, d, 1, "abc")
	put(t, d, 2, "de")
	does(t, "Drop", d.Drop(1))
	holds(t, "dropped", d, map[uint64]string{2: "de"})
	for _, seg := range []uint64{0, 1, 3, most} {
		if e := d.Drop(seg); e != api.ErrNone {
			t.Errorf("Drop(%d) is %d", seg, e)
		}
	}
	holds(t, "nothing has changed", d, map[uint64]string{2: "de"})
	if d.Waiting() != 3 {
		t.Errorf("%d wait", d.Waiting())
	}
	put(t, d, 1, "x")
	holds(t, "anew", d, map[uint64]string{1: "x", 2: "de"})
}

// P6.1: the numbers rise, as numbers of 64 bits.
func TestSegs(t *testing.T) {
	d := disk.New(0)
	source := rand.New(rand.NewSource(1))
	want := []uint64{0, 1, 1 << 63, 1<<63 - 1, most}
	for range 200 {
		want = append(want, source.Uint64())
	}
	source.Shuffle(len(want), func(i, j int) { want[i], want[j] = want[j], want[i] })
	for _, seg := range want {
		put(t, d, seg, "")
	}
	slices.Sort(want)
	if got := d.Segs(); !slices.Equal(got, want) {
		t.Errorf("Segs are %v", got)
	}
}

// P6.2: what was done waits till Sync, what had an error doesn't.
func TestWaiting(t *testing.T) {
	d := disk.New(5)
	for i, do := range []func() api.Errno{
		func() api.Errno { return d.Append(1, []byte("ab")) },
		func() api.Errno { return d.Append(1, nil) },
		func() api.Errno { return d.Append(2, []byte("cd")) },
		func() api.Errno { return d.Drop(1) },
		func() api.Errno { return d.Append(1, nil) },
		func() api.Errno { return d.Drop(1) },
	} {
		does(t, "a call", do())
		d.Drop(9)
		d.Append(2, []byte("too much"))
		d.Read(1)
		d.Full(true)
		d.Append(2, nil)
		d.Full(false)
		d.Crash(0, 0)
		d.Copy().Append(7, nil)
		if d.Waiting() != i+1 {
			t.Fatalf("behind call %d there wait %d", i, d.Waiting())
		}
	}
	for range 2 {
		does(t, "Sync", d.Sync())
		if d.Waiting() != 0 {
			t.Errorf("behind Sync there wait %d", d.Waiting())
		}
		holds(t, "synced", d, map[uint64]string{2: "cd"})
	}
	put(t, d, 2, "e")
	if d.Waiting() != 1 {
		t.Errorf("there wait %d", d.Waiting())
	}
}

// P6.2: what is synced survives every crash.
func TestSync(t *testing.T) {
	d := disk.New(50)
	put(t, d, 1, "ab")
	put(t, d, 2, "cd")
	does(t, "Drop", d.Drop(1))
	put(t, d, 3, "")
	holds(t, "ahead of Sync", d.Crash(0, 0), nil)
	d.Full(true)
	does(t, "Sync of a full disk", d.Sync())
	for keep := -1; keep < 5; keep++ {
		for torn := -1; torn < 5; torn++ {
			holds(t, "synced", d.Crash(keep, torn), map[uint64]string{2: "cd", 3: ""})
		}
	}
}

// waits answers a disk with segments 1 and 2, and calls of every kind that wait.
func waits(t *testing.T) *disk.Disk {
	t.Helper()
	d := disk.New(30)
	put(t, d, 1, "ab")
	put(t, d, 2, "x")
	does(t, "Sync", d.Sync())
	put(t, d, 1, "cde")
	put(t, d, 3, "ghi")
	put(t, d, 4, "")
	put(t, d, 1, "")
	does(t, "Drop", d.Drop(2))
	put(t, d, 2, "yz")
	does(t, "Drop", d.Drop(1))
	put(t, d, 4, "j")
	return d
}

// P6.2: what a crash leaves, at each number of calls, and of bytes.
func TestCrash(t *testing.T) {
	type left = map[uint64]string
	d := waits(t)
	now := left{2: "yz", 3: "ghi", 4: "j"}
	for _, x := range []struct {
		keep, torn int
		want       left
	}{
		// The next one is an Append to a segment that is there.
		{0, 0, left{1: "ab", 2: "x"}},
		{0, -1, left{1: "ab", 2: "x"}},
		{0, math.MinInt, left{1: "ab", 2: "x"}},
		{0, 1, left{1: "abc", 2: "x"}},
		{0, 2, left{1: "abcd", 2: "x"}},
		{0, 3, left{1: "abcd", 2: "x"}},
		{0, 4, left{1: "abcd", 2: "x"}},
		{0, math.MaxInt, left{1: "abcd", 2: "x"}},
		{-1, 1, left{1: "abc", 2: "x"}},
		{math.MinInt, math.MaxInt, left{1: "abcd", 2: "x"}},
		// An Append to one that isn't there: without a byte it isn't begun.
		{1, 0, left{1: "abcde", 2: "x"}},
		{1, -3, left{1: "abcde", 2: "x"}},
		{1, 1, left{1: "abcde", 2: "x", 3: "g"}},
		{1, 2, left{1: "abcde", 2: "x", 3: "gh"}},
		{1, 3, left{1: "abcde", 2: "x", 3: "gh"}},
		// An Append of no bytes, to one that isn't there, and to one that is.
		{2, 0, left{1: "abcde", 2: "x", 3: "ghi"}},
		{2, 5, left{1: "abcde", 2: "x", 3: "ghi"}},
		{3, 0, left{1: "abcde", 2: "x", 3: "ghi", 4: ""}},
		{3, 5, left{1: "abcde", 2: "x", 3: "ghi", 4: ""}},
		// A Drop.
		{4, 0, left{1: "abcde", 2: "x", 3: "ghi", 4: ""}},
		{4, 1, left{1: "abcde", 2: "x", 3: "ghi", 4: ""}},
		{4, -1, left{1: "abcde", 2: "x", 3: "ghi", 4: ""}},
		// An Append to one that was dropped.
		{5, 0, left{1: "abcde", 3: "ghi", 4: ""}},
		{5, 1, left{1: "abcde", 2: "y", 3: "ghi", 4: ""}},
		{5, 2, left{1: "abcde", 2: "y", 3: "ghi", 4: ""}},
		{6, 9, left{1: "abcde", 2: "yz", 3: "ghi", 4: ""}},
		// An Append of one byte: all but one is none.
		{7, 0, left{2: "yz", 3: "ghi", 4: ""}},
		{7, 1, left{2: "yz", 3: "ghi", 4: ""}},
		{7, 9, left{2: "yz", 3: "ghi", 4: ""}},
		// All, and beyond.
		{8, 0, now},
		{8, 9, now},
		{9, 9, now},
		{math.MaxInt, math.MaxInt, now},
		{math.MaxInt, math.MinInt, now},
	} {
		c := d.Crash(x.keep, x.torn)
		holds(t, "left", c, x.want)
		if c.Waiting() != 0 || c.Room() != 30 {
			t.Errorf("Crash(%d, %d): %d wait, Room is %d", x.keep, x.torn, c.Waiting(), c.Room())
		}
		holds(t, "a crash of what a crash left", c.Crash(0, 0), x.want)
		holds(t, "a crash of what a crash left", c.Crash(1, 1), x.want)
		holds(t, "the disk itself", d, now)
		if d.Waiting() != 8 {
			t.Fatalf("of the disk itself %d wait", d.Waiting())
		}
	}
}

// P6.2: an Append of one byte to a segment that isn't there begins none when it is torn.
func TestCrashOneByte(t *testing.T) {
	d := disk.New(9)
	put(t, d, 1, "a")
	for _, torn := range []int{-1, 0, 1, 2} {
		holds(t, "torn", d.Crash(0, torn), nil)
	}
	holds(t, "kept", d.Crash(1, 0), map[uint64]string{1: "a"})
}

// P6.2: the document's example.
func TestExample(t *testing.T) {
	d := disk.New(4)
	put(t, d, 1, "ab")
	does(t, "Sync", d.Sync())
	put(t, d, 1, "cd")
	holds(t, "left", d.Crash(0, 1), map[uint64]string{1: "abc"})
}

// P6.2: what a crash leaves is as Full as the disk was, of the same room, and goes its own way.
func TestCrashGoesOn(t *testing.T) {
	d := waits(t)
	d.Full(true)
	c := d.Crash(1, 2)
	if c.Append(1, nil) != api.ErrFull {
		t.Error("what is left of a full disk isn't full")
	}
	c.Full(false)
	if d.Append(1, nil) != api.ErrFull {
		t.Error("the disk itself isn't full any more")
	}
	d.Full(false)
	put(t, d, 3, "JK")
	put(t, c, 1, "fg")
	put(t, c, 3, "lm")
	does(t, "Drop", c.Drop(2))
	put(t, d, 2, "!")
	holds(t, "what goes on", c, map[uint64]string{1: "abcdefg", 3: "ghlm"})
	holds(t, "the disk itself", d, map[uint64]string{2: "yz!", 3: "ghiJK", 4: "j"})
	if c.Waiting() != 3 || d.Waiting() != 10 {
		t.Errorf("%d and %d wait", c.Waiting(), d.Waiting())
	}
	holds(t, "a second crash", c.Crash(0, 1), map[uint64]string{1: "abcdef", 2: "x", 3: "gh"})
	holds(t, "a second crash", c.Crash(1, 1), map[uint64]string{1: "abcdefg", 2: "x", 3: "ghl"})
	holds(t, "the disk's own crash", d.Crash(1, 2), map[uint64]string{1: "abcde", 2: "x", 3: "gh"})
	if c.Append(9, make([]byte, 30-11)) != api.OK || c.Append(9, []byte("x")) != api.ErrFull {
		t.Errorf("of the same room %d are used", c.Used())
	}
	if e := d.Crash(0, 0).Append(9, make([]byte, 28)); e != api.ErrFull {
		t.Errorf("Append to what is left is %d", e)
	}
}

// Copy: all of it, with what waits, and each changes by itself.
func TestCopy(t *testing.T) {
	d := waits(t)
	c := d.Copy()
	now := map[uint64]string{2: "yz", 3: "ghi", 4: "j"}
	holds(t, "a copy", c, now)
	if c.Room() != 30 || c.Waiting() != 8 || !disk.Same(c, d) {
		t.Errorf("a copy: Room is %d, %d wait", c.Room(), c.Waiting())
	}
	put(t, c, 3, "copy")
	put(t, d, 3, "disk")
	put(t, c, 4, "k")
	does(t, "Drop", d.Drop(4))
	holds(t, "the copy", c, map[uint64]string{2: "yz", 3: "ghicopy", 4: "jk"})
	holds(t, "the origin", d, map[uint64]string{2: "yz", 3: "ghidisk"})
	for torn := range 4 {
		holds(t, "the copy's crash", c.Crash(8, torn+1), map[uint64]string{2: "yz", 3: "ghi" + "copy"[:min(torn+1, 3)], 4: "j"})
		holds(t, "the origin's crash", d.Crash(8, torn+1), map[uint64]string{2: "yz", 3: "ghi" + "disk"[:min(torn+1, 3)], 4: "j"})
	}
	does(t, "Sync", c.Sync())
	if c.Waiting() != 0 || d.Waiting() != 10 {
		t.Errorf("%d and %d wait", c.Waiting(), d.Waiting())
	}
	holds(t, "the copy's crash", c.Crash(0, 0), map[uint64]string{2: "yz", 3: "ghicopy", 4: "jk"})
	holds(t, "the origin's crash", d.Crash(0, 0), map[uint64]string{1: "ab", 2: "x"})
	does(t, "Sync", d.Sync())
	c.Full(true)
	put(t, d, 1, "n")
	if c.Copy().Append(1, nil) != api.ErrFull || d.Copy().Append(1, nil) != api.OK {
		t.Error("a copy is as Full as its origin")
	}
	holds(t, "a copy of a copy", c.Copy().Copy(), map[uint64]string{2: "yz", 3: "ghicopy", 4: "jk"})
}

// Same: by the segments and their bytes, and by nothing else.
func TestSame(t *testing.T) {
	var l []*disk.Disk
	for _, segs := range []map[uint64]string{
		nil, {1: ""}, {2: ""}, {1: "", 2: ""}, {1: "a"}, {1: "b"}, {1: "ab"}, {2: "ab"}, {1: "a", 2: "b"}, {1: "b", 2: "a"}, {1: "ab", 2: ""},
	} {
		d := disk.New(5)
		for seg, p := range segs {
			put(t, d, seg, p)
		}
		l = append(l, d)
	}
	l = append(l, nil)
	for i, a := range l {
		for j, b := range l {
			if disk.Same(a, b) != (i == j) || disk.Same(a, b.Copy()) != (i == j) {
				t.Errorf("Same of %d and %d is %v", i, j, i != j)
			}
		}
	}
	a, b := disk.New(7), disk.New(9)
	put(t, a, 1, "ab")
	put(t, b, 3, "c")
	put(t, b, 1, "a")
	put(t, b, 1, "b")
	does(t, "Drop", b.Drop(3))
	does(t, "Sync", b.Sync())
	b.Full(true)
	if !disk.Same(a, b) || !disk.Same(b, a) {
		t.Error("disks with the same bytes aren't the same")
	}
}

// Of a nil disk: ErrNone, nothing, 0, nil.
func TestNil(t *testing.T) {
	var d *disk.Disk
	for what, e := range map[string]api.Errno{"Append": d.Append(1, []byte("a")), "Append of nil": d.Append(1, nil), "Drop": d.Drop(1), "Sync": d.Sync()} {
		if e != api.ErrNone {
			t.Errorf("%s of a nil disk is %d", what, e)
		}
	}
	if p, e := d.Read(1); p != nil || e != api.ErrNone {
		t.Errorf("Read of a nil disk is %q, %d", p, e)
	}
	d.Full(true)
	d.Full(false)
	if d.Segs() != nil || d.Used() != 0 || d.Room() != 0 || d.Waiting() != 0 || d.Crash(1, 1) != nil || d.Copy() != nil {
		t.Error("a nil disk tells something")
	}
	if !disk.Same(nil, nil) || disk.Same(nil, disk.New(0)) || disk.Same(disk.New(0), nil) {
		t.Error("only nil is the same as nil")
	}
}

// overwrite writes over all of p's memory.
func overwrite(p []byte) {
	p = p[:cap(p)]
	for i := range p {
		p[i] = 0x55
	}
}

// Rule of memory: what is appended is neither changed, nor its spare room, nor kept.
func TestAppendMemory(t *testing.T) {
	d := disk.New(100)
	want := ""
	for _, p := range []string{"", "ab", "cdefghij", "k"} {
		whole := append([]byte(p), bytes.Repeat([]byte{0xee}, 32)...)
		before := bytes.Clone(whole)
		does(t, "Append", d.Append(1, whole[:len(p)]))
		does(t, "Append", d.Append(2, whole[:len(p)]))
		c := d.Crash(1, 1)
		put(t, d, 1, "+")
		put(t, c, 1, "-")
		if !bytes.Equal(whole, before) {
			t.Errorf("what was appended changed: %x", whole)
		}
		overwrite(whole)
		want += p + "+"
		if got, _ := d.Read(1); string(got) != want {
			t.Errorf("what was appended is kept: %q, want %q", got, want)
		}
		does(t, "Sync", d.Sync())
	}
	holds(t, "behind a crash", d.Crash(0, 0), map[uint64]string{1: want, 2: "abcdefghijk"})
}

// Rule of memory: what is told is the caller's own.
func TestAnswerMemory(t *testing.T) {
	d := waits(t)
	c := d.Copy()
	want := map[uint64]string{2: "yz", 3: "ghi", 4: "j"}
	for range 2 {
		for _, of := range []*disk.Disk{d, c, d.Crash(9, 9)} {
			for seg := range want {
				first, _ := of.Read(seg)
				second, _ := of.Read(seg)
				overwrite(first)
				if string(second) != want[seg] {
					t.Errorf("two answers share memory: %q", second)
				}
			}
			one, two := of.Segs(), of.Segs()
			for i := range one[:cap(one)] {
				one[:cap(one)][i] = 77
			}
			if !slices.Equal(two, []uint64{2, 3, 4}) {
				t.Errorf("two answers share memory: %v", two)
			}
			holds(t, "told", of, want)
		}
		holds(t, "a crash", d.Crash(1, 2), map[uint64]string{1: "abcde", 2: "x", 3: "gh"})
		put(t, d, 4, "")
	}
}

// done is an Append or a Drop of the model below.
type done struct {
	seg  uint64
	drop bool
	p    string
}

// model is a disk worked out a second way: all that was done, from the beginning on, and how much of it is safe.
type model struct {
	all  []done
	safe int
	room int
	full bool
}

// after answers the segments behind these calls.
func after(l []done) map[uint64]string {
	out := map[uint64]string{}
	for _, c := range l {
		if c.drop {
			delete(out, c.seg)
		} else {
			out[c.seg] += c.p
		}
	}
	return out
}

// try answers the error of a call, and notes it if there is none.
func (m *model) try(c done) api.Errno {
	now := after(m.all)
	used := 0
	for _, p := range now {
		used += len(p)
	}
	if _, ok := now[c.seg]; c.drop && !ok {
		return api.ErrNone
	}
	if !c.drop && (m.full || used+len(c.p) > m.room) {
		return api.ErrFull
	}
	m.all = append(m.all, c)
	return api.OK
}

// crash answers the model of what a crash leaves.
func (m *model) crash(keep, torn int) *model {
	waiting := m.all[m.safe:]
	keep = min(max(keep, 0), len(waiting))
	all := slices.Concat(m.all[:m.safe], waiting[:keep])
	if keep < len(waiting) && !waiting[keep].drop {
		next := waiting[keep]
		if torn = min(torn, len(next.p)-1); torn > 0 {
			all = append(all, done{seg: next.seg, p: next.p[:torn]})
		}
	}
	return &model{all: all, safe: len(all), room: m.room, full: m.full}
}

// pair is a disk and its model.
type pair struct {
	d *disk.Disk
	m *model
}

// step does something to a pair, and answers another one that came of it, if one did.
func step(t *testing.T, x pair, source *rand.Rand) (pair, bool) {
	t.Helper()
	seg := uint64(source.Intn(4))
	switch source.Intn(12) {
	case 0, 1, 2, 3, 4:
		p := "abcdefgh"[:source.Intn(9)]
		if got, want := x.d.Append(seg, []byte(p)), x.m.try(done{seg: seg, p: p}); got != want {
			t.Fatalf("Append is %d, want %d", got, want)
		}
	case 5, 6, 7:
		if got, want := x.d.Drop(seg), x.m.try(done{seg: seg, drop: true}); got != want {
			t.Fatalf("Drop is %d, want %d", got, want)
		}
	case 8:
		does(t, "Sync", x.d.Sync())
		x.m.safe = len(x.m.all)
	case 9:
		x.m.full = source.Intn(3) == 0
		x.d.Full(x.m.full)
	case 10:
		keep, torn := source.Intn(8)-1, source.Intn(11)-1
		return pair{x.d.Crash(keep, torn), x.m.crash(keep, torn)}, true
	case 11:
		m := *x.m
		m.all = slices.Clone(m.all)
		return pair{x.d.Copy(), &m}, true
	}
	return pair{}, false
}

// P6.1, P6.2, P1, P2: disks, their copies and what crashes left of them, step by step, each by itself.
func TestRandomDisks(t *testing.T) {
	source := rand.New(rand.NewSource(6))
	for range 300 {
		room := source.Intn(40)
		l := []pair{{disk.New(room), &model{room: room}}}
		for range 60 {
			if x, ok := step(t, l[source.Intn(len(l))], source); ok && len(l) < 6 {
				l = append(l, x)
			}
			for _, x := range l {
				holds(t, "a disk", x.d, after(x.m.all))
				if got, want := x.d.Waiting(), len(x.m.all)-x.m.safe; got != want || x.d.Room() != room || x.d.Used() > room {
					t.Fatalf("%d wait, want %d; Room is %d", got, want, x.d.Room())
				}
			}
		}
		for _, x := range l {
			for keep := -1; keep <= x.d.Waiting()+1; keep++ {
				for torn := -1; torn < 10; torn++ {
					holds(t, "a crash", x.d.Crash(keep, torn), after(x.m.crash(keep, torn).all))
				}
			}
		}
	}
}
