package seglog_test

import (
	"math/rand"
	"slices"
	"strings"
	"testing"

	"sumpter/api"
	"sumpter/disk"
	"sumpter/seglog"
)

// P7.5: at each call that waits, and at each byte of it: the records that were synced, and those of the calls that were done, each whole.
func TestCrash(t *testing.T) {
	bodies := []string{"one", "two", "", "four", "five five five", "six", "", "", "nine"}
	for size := 1; size < 90; size += 4 {
		for synced := range len(bodies) + 1 {
			l := opened(t, disk.New(2000), size)
			for i, b := range bodies {
				if i == synced {
					l.Sync()
				}
				add(t, l, b, uint64(i+1))
			}
			if synced == len(bodies) {
				l.Sync()
			}
			for keep := 0; keep <= len(bodies)-synced; keep++ {
				for torn := range 36 {
					behindCrash(t, l.Disk().Crash(keep, torn), size, bodies[:synced+keep])
				}
			}
			tells(t, "what crashed stays", l, 1, bodies...)
		}
	}
}

// behindCrash looks whether a disk that was found has just these records, and whether others come behind them, a further crash between.
func behindCrash(t *testing.T, found *disk.Disk, size int, bodies []string) {
	t.Helper()
	l := opened(t, found, size)
	tells(t, "found", l, 1, bodies...)
	if found.Waiting() != 0 {
		t.Fatalf("%d wait", found.Waiting())
	}
	next := uint64(len(bodies) + 1)
	add(t, l, "behind", next)
	add(t, l, "once more", next+1)
	for torn := range 4 {
		again := opened(t, found.Crash(1, 7*torn), size)
		tells(t, "found again", again, 1, append(slices.Clone(bodies), "behind")...)
		add(t, again, "at last", next+1)
		tells(t, "opened at last", opened(t, again.Disk(), size), 1, append(slices.Clone(bodies), "behind", "at last")...)
	}
	tells(t, "opened again", opened(t, found, size), 1, append(slices.Clone(bodies), "behind", "once more")...)
}

// P7.5: a crash within a head, at its end, and within the record behind it.
func TestCrashAtHead(t *testing.T) {
	for torn := range 12 + 8 + 3 {
		l := opened(t, disk.New(1000), 21)
		add(t, l, "a", 1)
		l.Sync()
		add(t, l, "bcd", 2)
		m := opened(t, l.Disk().Crash(0, torn), 21)
		tells(t, "found", m, 1, "a")
		add(t, m, "new", 2)
		want := segs{1: seg(1, "a"), 2: seg(2, "bcd")[:torn], 3: seg(2, "new")}
		switch torn {
		case 0:
			want = segs{1: seg(1, "a"), 2: seg(2, "new")}
		case 12:
			// A whole head, and nothing that is torn behind it.
			want = segs{1: seg(1, "a"), 2: seg(2, "new")}
		}
		has(t, "appended", m.Disk(), want)
		tells(t, "appended", m, 1, "a", "new")
	}
}

// history is a log worked out a second way: all bodies that were appended, how many were there at the last Sync, and which of the disk's calls that wait are Appends.
type history struct {
	bodies  []string
	synced  int
	appends []bool
}

// segment is a disk's segment read a second way.
type segment struct {
	number      uint64
	head, torn  bool
	first, next uint64
	bytes       int
}

// parse reads a right log's segments a second way: by holding what stands there against what would have been written.
func parse(d *disk.Disk, h history) []segment {
	var out []segment
	for _, number := range d.Segs() {
		p, _ := d.Read(number)
		s := segment{number: number, bytes: len(p)}
		rest := string(p)
		for first := uint64(1); !s.head && first <= uint64(len(h.bodies)+1); first++ {
			if strings.HasPrefix(rest, head(first)) {
				s.head, s.first, s.next = true, first, first
				rest = rest[12:]
			}
		}
		for s.head && s.next <= uint64(len(h.bodies)) && strings.HasPrefix(rest, record(h.bodies[s.next-1])) {
			rest = rest[len(record(h.bodies[s.next-1])):]
			s.next++
		}
		s.torn = len(rest) > 0
		out = append(out, s)
	}
	return out
}

// place answers where a record would go.
func place(l []segment, size int) (number uint64, begins bool) {
	if len(l) == 0 {
		return 1, true
	}
	last := l[len(l)-1]
	if !last.head || last.torn || last.bytes >= size {
		return last.number + 1, true
	}
	return last.number, false
}

// trimmed answers which segments a Trim leaves.
func trimmed(l []segment, n uint64) []segment {
	last := -1
	for i, s := range l {
		if s.head {
			last = i
		}
	}
	var out []segment
	for i, s := range l {
		if s.head && (i == last || s.next > n && s.next > s.first) {
			out = append(out, s)
		}
	}
	return out
}

// firstOf answers the least number of a record, as it must be told.
func firstOf(l []segment, next uint64) uint64 {
	for _, s := range l {
		if s.next > s.first {
			return s.first
		}
	}
	return next
}

// agrees looks whether a log tells what its history says, and whether it is the one that is read of its disk.
func (h history) agrees(t *testing.T, l *seglog.Log, size int) {
	t.Helper()
	now := parse(l.Disk(), h)
	next := uint64(len(h.bodies) + 1)
	first := firstOf(now, next)
	again := opened(t, l.Disk().Copy(), size)
	for _, x := range []*seglog.Log{l, again} {
		tells(t, "a log", x, first, h.bodies[first-1:]...)
		if x.Segs() != len(now) {
			t.Fatalf("Segs is %d, want %d", x.Segs(), len(now))
		}
		for n := uint64(0); n <= next+1; n++ {
			if got, want := x.Spare(n), len(now)-len(trimmed(now, n)); got != want {
				t.Fatalf("Spare(%d) is %d, want %d", n, got, want)
			}
		}
	}
	if l.Disk().Waiting() != len(h.appends) {
		t.Fatalf("%d wait, want %d", l.Disk().Waiting(), len(h.appends))
	}
}

// append appends to a log, and notes it; it looks where the record goes.
func (h *history) append(t *testing.T, l *seglog.Log, size int, body string) {
	t.Helper()
	d := l.Disk()
	before := d.Copy()
	number, begins := place(parse(d, *h), size)
	row, next := record(body), uint64(len(h.bodies)+1)
	if begins {
		row = head(next) + row
	}
	fits := d.Used()+len(row) <= d.Room()
	if l.Fits(len(body)) != fits {
		t.Fatalf("Fits is %v", !fits)
	}
	n, e := l.Append([]byte(body))
	if want := before.Append(number, []byte(row)); e != want || !disk.Same(d, before) {
		t.Fatalf("Append is error %d, want %d", e, want)
	}
	if e != api.OK {
		if n != 0 {
			t.Fatalf("beside the error is %d", n)
		}
		return
	}
	if n != next {
		t.Fatalf("Append is %d, want %d", n, next)
	}
	h.bodies = append(h.bodies, body)
	h.appends = append(h.appends, true)
}

// fits looks whether Fits tells what can be appended, to a copy that isn't told to be full.
func fits(t *testing.T, l *seglog.Log, size int, sizes []int) {
	t.Helper()
	d := l.Disk().Copy()
	d.Full(false)
	other := opened(t, d, size)
	want := true
	for _, n := range sizes {
		_, e := other.Append(make([]byte, n))
		want = want && e == api.OK
	}
	if got := l.Fits(sizes...); got != want {
		t.Fatalf("Fits(%v) is %v", sizes, got)
	}
}

// crash answers what is found of a log, and its history.
func (h history) crash(t *testing.T, l *seglog.Log, size, keep, torn int) (*seglog.Log, history) {
	t.Helper()
	keep = min(keep, len(h.appends))
	count := h.synced
	for _, is := range h.appends[:keep] {
		if is {
			count++
		}
	}
	return opened(t, l.Disk().Crash(keep, torn), size), history{bodies: slices.Clone(h.bodies[:count]), synced: count}
}

// P7.2 to P7.5, P2: logs step by step, through crashes, on disks that are full at times.
func TestRandomLogs(t *testing.T) {
	source := rand.New(rand.NewSource(7))
	for range 400 {
		size := 1 + source.Intn(80)
		l := opened(t, disk.New(source.Intn(400)), size)
		h := history{}
		for range 50 {
			switch source.Intn(12) {
			case 0, 1, 2, 3, 4, 5:
				h.append(t, l, size, "abcdefghijkl"[:source.Intn(13)])
			case 6:
				l.Sync()
				h.synced, h.appends = len(h.bodies), nil
			case 7:
				n := uint64(source.Intn(len(h.bodies) + 3))
				now := parse(l.Disk(), h)
				dropped := len(now) - len(trimmed(now, n))
				if got := l.Trim(n); got != dropped {
					t.Fatalf("Trim(%d) is %d, want %d", n, got, dropped)
				}
				h.appends = append(h.appends, make([]bool, dropped)...)
			case 8:
				l.Disk().Full(source.Intn(3) == 0)
			case 9:
				fits(t, l, size, []int{source.Intn(30), source.Intn(30), source.Intn(30)}[:source.Intn(4)])
			case 10, 11:
				l, h = h.crash(t, l, size, source.Intn(6), source.Intn(30))
			}
			h.agrees(t, l, size)
		}
	}
}
