package seglog_test

import (
	"bytes"
	"encoding/binary"
	"hash/crc32"
	"math"
	"slices"
	"strings"
	"testing"

	"sumpter/api"
	"sumpter/disk"
	"sumpter/seglog"
)

const most = math.MaxUint64

// segs are a disk's segments by their numbers.
type segs map[uint64]string

// head is a head, written a second way.
func head(first uint64) string {
	p := binary.LittleEndian.AppendUint64(nil, first)
	return string(binary.LittleEndian.AppendUint32(p, crc32.ChecksumIEEE(p)))
}

// record is a record, written a second way.
func record(body string) string {
	count := binary.LittleEndian.AppendUint32(nil, uint32(len(body)))
	sum := crc32.ChecksumIEEE(append(bytes.Clone(count), body...))
	return string(binary.LittleEndian.AppendUint32(count, sum)) + body
}

// seg is a segment of a head and these records.
func seg(first uint64, bodies ...string) string {
	s := head(first)
	for _, b := range bodies {
		s += record(b)
	}
	return s
}

// turned is s with another byte at that place.
func turned(s string, at int) string {
	p := []byte(s)
	p[at] ^= 0x40
	return string(p)
}

// laid answers a disk with these segments, all safe, of so much room beyond them.
func laid(t *testing.T, have segs, spare int) *disk.Disk {
	t.Helper()
	used := 0
	for _, p := range have {
		used += len(p)
	}
	d := disk.New(used + spare)
	for number, p := range have {
		if e := d.Append(number, []byte(p)); e != api.OK {
			t.Fatalf("laying a segment is error %d", e)
		}
	}
	d.Sync()
	return d
}

// has looks whether a disk has just these segments.
func has(t *testing.T, what string, d *disk.Disk, want segs) {
	t.Helper()
	if !disk.Same(d, laid(t, want, 0)) {
		got := segs{}
		for _, number := range d.Segs() {
			p, _ := d.Read(number)
			got[number] = string(p)
		}
		t.Fatalf("%s: the disk has %x, want %x", what, got, want)
	}
}

// opened answers a disk's log, which must be one.
func opened(t *testing.T, d *disk.Disk, size int) *seglog.Log {
	t.Helper()
	l, e := seglog.Open(d, size)
	if e != api.OK || l == nil {
		t.Fatalf("Open is error %d", e)
	}
	return l
}

// on answers the log of a disk with these segments.
func on(t *testing.T, have segs, size int) *seglog.Log {
	t.Helper()
	return opened(t, laid(t, have, 1000), size)
}

// add appends a record, which must have that number.
func add(t *testing.T, l *seglog.Log, body string, want uint64) {
	t.Helper()
	if n, e := l.Append([]byte(body)); n != want || e != api.OK {
		t.Fatalf("Append is %d, error %d, want %d", n, e, want)
	}
}

// tells looks whether a log has just these records, by all that it tells of them.
func tells(t *testing.T, what string, l *seglog.Log, first uint64, bodies ...string) {
	t.Helper()
	next := first + uint64(len(bodies))
	if l.First() != first || l.Next() != next {
		t.Fatalf("%s: First is %d, Next %d, want %d, %d", what, l.First(), l.Next(), first, next)
	}
	n := first
	for number, p := range l.All() {
		if number != n || number >= next || string(p) != bodies[number-first] {
			t.Fatalf("%s: All tells %d, %.40q", what, number, p)
		}
		n++
	}
	if n != next {
		t.Fatalf("%s: All ends ahead of %d, want %d", what, n, next)
	}
	for i, b := range bodies {
		if p, e := l.Get(first + uint64(i)); e != api.OK || string(p) != b {
			t.Fatalf("%s: Get(%d) is %.40q, error %d", what, first+uint64(i), p, e)
		}
	}
	for _, n := range []uint64{0, first - 1, next, next + 1, 1 << 62, most} {
		if n >= first && n < next {
			continue
		}
		if p, e := l.Get(n); p != nil || e != api.ErrNone {
			t.Fatalf("%s: Get(%d), which isn't there, is %.40q, error %d", what, n, p, e)
		}
	}
}

// P7.1: how many, the sum of that and of the bytes, the bytes.
func TestRecord(t *testing.T) {
	if got := seglog.Record([]byte("x")); !bytes.Equal(got[:4], []byte{1, 0, 0, 0}) || len(got) != 9 || got[8] != 'x' {
		t.Errorf("Record of x is %x", got)
	}
	for _, b := range []string{"", "x", "123456789", strings.Repeat("ab", 150), strings.Repeat("z", 70000), strings.Repeat("y", api.MaxRecord)} {
		if got := seglog.Record([]byte(b)); string(got) != record(b) {
			t.Errorf("Record of %d bytes is %.40x", len(b), got)
		}
	}
	if got := seglog.Record(nil); string(got) != record("") {
		t.Errorf("Record of nil is %x", got)
	}
}

// P7.1: eight bytes of the number, closed.
func TestHead(t *testing.T) {
	if got := seglog.Head(0x0102); len(got) != 12 || !bytes.Equal(got[:8], []byte{2, 1, 0, 0, 0, 0, 0, 0}) {
		t.Errorf("Head is %x", got)
	}
	for _, n := range []uint64{0, 1, 7, 255, 256, 1<<62 - 1, 1 << 62, most} {
		if got := seglog.Head(n); string(got) != head(n) {
			t.Errorf("Head(%d) is %x", n, got)
		}
	}
}

// P7.2: a size below 1, and a nil disk, are told ahead of all.
func TestOpenArguments(t *testing.T) {
	broken := segs{1: turned(head(1), 0)}
	for _, x := range []struct {
		d    *disk.Disk
		size int
		want api.Errno
	}{
		{disk.New(100), 0, api.ErrArg},
		{disk.New(100), -1, api.ErrArg},
		{disk.New(100), math.MinInt, api.ErrArg},
		{nil, 0, api.ErrArg},
		{nil, 1, api.ErrNone},
		{laid(t, broken, 0), 0, api.ErrArg},
		{laid(t, broken, 0), 1, api.ErrSum},
		{disk.New(0), 1, api.OK},
		{disk.New(100), math.MaxInt, api.OK},
	} {
		if l, e := seglog.Open(x.d, x.size); e != x.want || (l == nil) != (e != api.OK) {
			t.Errorf("Open with size %d is error %d, want %d", x.size, e, x.want)
		}
	}
}

// P7.2: of a disk without segments there is nothing, and nothing is written.
func TestOpenNothing(t *testing.T) {
	d := disk.New(100)
	l := opened(t, d, 40)
	tells(t, "a new disk", l, 1)
	if l.Segs() != 0 || l.Disk() != d || d.Waiting() != 0 || d.Used() != 0 || len(d.Segs()) != 0 {
		t.Error("a new disk has something")
	}
}

// P7.1, P7.2: records are numbered through all segments, by their numbers rising.
func TestOpen(t *testing.T) {
	for _, x := range []struct {
		have   segs
		first  uint64
		bodies []string
	}{
		{segs{1: seg(1, "a")}, 1, []string{"a"}},
		{segs{1: seg(1, "a", "", "bc"), 2: seg(4, "d")}, 1, []string{"a", "", "bc", "d"}},
		{segs{0: seg(7, "a"), 9: seg(8, "b"), 10: seg(9, "c"), 1 << 63: seg(10, "d"), most: seg(11, "e")}, 7, []string{"a", "b", "c", "d", "e"}},
		{segs{5: seg(7)}, 7, nil},
		{segs{5: seg(7), 6: seg(7), 7: seg(7, "x"), 8: seg(8), 9: seg(8, "y")}, 7, []string{"x", "y"}},
		{segs{3: seg(1<<62-1, "x", "y")}, 1<<62 - 1, []string{"x", "y"}},
	} {
		l := on(t, x.have, 1)
		tells(t, "a log", l, x.first, x.bodies...)
		if l.Segs() != len(x.have) || l.Disk().Waiting() != 0 {
			t.Errorf("Segs is %d, %d wait", l.Segs(), l.Disk().Waiting())
		}
		has(t, "read", l.Disk(), x.have)
	}
}

// P7.2: a segment that is shorter than a head says nothing, wherever it stands, whatever it has.
func TestOpenShort(t *testing.T) {
	for short := range 12 {
		for _, p := range []string{head(99)[:short], strings.Repeat("\xff", short)} {
			l := on(t, segs{3: p}, 1)
			tells(t, "alone", l, 1)
			if l.Segs() != 1 {
				t.Errorf("Segs is %d", l.Segs())
			}
			have := segs{0: p, 1: p, 2: seg(5, "a", "b"), 3: p, 4: p, 5: seg(7, "c"), 6: p, most: p}
			l = on(t, have, 1)
			tells(t, "ahead, between, behind", l, 5, "a", "b", "c")
			if l.Segs() != 8 || l.Disk().Waiting() != 0 {
				t.Errorf("Segs is %d, %d wait", l.Segs(), l.Disk().Waiting())
			}
			has(t, "read", l.Disk(), have)
		}
	}
}

// P7.2: each segment is read to its end, or to what is torn at any of its bytes.
func TestOpenTorn(t *testing.T) {
	for _, body := range []string{"", "x", "lost words"} {
		last := record(body)
		for come := range len(last) {
			l := on(t, segs{1: seg(1, "a", "b") + last[:come]}, 1000)
			tells(t, "at the end", l, 1, "a", "b")
			tells(t, "behind a head", on(t, segs{1: seg(3) + last[:come]}, 1000), 3)
			l = on(t, segs{1: seg(1, "a") + last[:come], 2: seg(2) + last[:come], 3: head(4)[:5], 4: seg(2, "b")}, 1000)
			tells(t, "between", l, 1, "a", "b")
			if l.Segs() != 4 || l.Disk().Waiting() != 0 {
				t.Errorf("Segs is %d, %d wait", l.Segs(), l.Disk().Waiting())
			}
		}
	}
}

// fails looks which error Open has, and that nothing is written.
func fails(t *testing.T, what string, have segs, want api.Errno) {
	t.Helper()
	d := laid(t, have, 100)
	l, e := seglog.Open(d, 40)
	if e != want || (l == nil) != (want != api.OK) {
		t.Errorf("%s: Open is error %d, want %d", what, e, want)
	}
	if d.Waiting() != 0 {
		t.Errorf("%s: %d wait", what, d.Waiting())
	}
	has(t, what, d, have)
}

// P7.2: a head's sum.
func TestOpenHeadSum(t *testing.T) {
	for at := range 12 {
		fails(t, "alone", segs{1: turned(head(1), at)}, api.ErrSum)
		fails(t, "with records", segs{1: turned(seg(1, "a"), at)}, api.ErrSum)
		fails(t, "the second", segs{1: seg(1, "a"), 2: turned(seg(2, "b"), at)}, api.ErrSum)
		fails(t, "behind a short one", segs{1: "", 2: turned(seg(2, "b"), at)}, api.ErrSum)
	}
}

// P7.2: a head's number.
func TestOpenHeadNumber(t *testing.T) {
	for _, n := range []uint64{0, 1 << 62, 1<<62 + 1, 1 << 63, most} {
		fails(t, "the first", segs{1: seg(n, "a")}, api.ErrForm)
		fails(t, "behind a short one", segs{1: head(1)[:11], 2: head(n)}, api.ErrForm)
		fails(t, "the second", segs{1: seg(1, "a"), 2: seg(n)}, api.ErrForm)
	}
	for _, n := range []uint64{1, 2, 1 << 32, 1<<62 - 1} {
		fails(t, "the first", segs{1: seg(n, "a")}, api.OK)
	}
	for n := range uint64(12) {
		want := api.ErrForm
		if n == 7 {
			want = api.OK
		}
		fails(t, "behind two", segs{1: seg(5, "a", "b"), 2: seg(n, "c")}, want)
		fails(t, "behind two, a torn, and a short one", segs{1: seg(5, "a", "b") + "\x01", 2: "?", 4: seg(n)}, want)
		fails(t, "behind none", segs{1: seg(7), 2: seg(n, "c")}, want)
		fails(t, "behind a torn one", segs{1: seg(7) + record("x")[:8], 2: seg(n, "c")}, want)
	}
	// One above the last record ahead, and so too great.
	fails(t, "at the end of the numbers", segs{1: seg(1<<62-1, "a"), 2: seg(1 << 62)}, api.ErrForm)
	fails(t, "just ahead of it", segs{1: seg(1<<62-2, "a"), 2: seg(1<<62-1, "b")}, api.OK)
}

// P7.2: a record that is too long is told by its count, whatever is there of it.
func TestOpenLong(t *testing.T) {
	great := record(strings.Repeat("g", api.MaxRecord))
	fails(t, "the longest", segs{1: seg(1) + great}, api.OK)
	fails(t, "the longest, torn", segs{1: seg(1) + great[:len(great)-1]}, api.OK)
	l := opened(t, laid(t, segs{1: seg(1) + great + record("h"), 2: seg(3)}, 0), 1)
	tells(t, "the longest, and one behind it", l, 1, great[8:], "h")
	long := record(strings.Repeat("g", api.MaxRecord+1))
	fails(t, "one more", segs{1: seg(1) + long}, api.ErrForm)
	for _, come := range []int{4, 5, 7, 8, 9, len(long) - 1} {
		fails(t, "one more, torn", segs{1: seg(1, "a") + long[:come]}, api.ErrForm)
		fails(t, "one more, its sum turned", segs{1: seg(1, "a") + turned(long, 4)[:come]}, api.ErrForm)
	}
	for come := range 4 {
		fails(t, "without its count", segs{1: seg(1, "a") + long[:come]}, api.OK)
	}
	fails(t, "the greatest count", segs{1: seg(1) + "\xff\xff\xff\xff"}, api.ErrForm)
}

// P7.2: a record's sum is over its count and its bytes.
func TestOpenSum(t *testing.T) {
	for _, body := range []string{"", "x", "words"} {
		r := record(body)
		for at := 4; at < len(r); at++ {
			fails(t, "the first", segs{1: seg(1) + turned(r, at)}, api.ErrSum)
			fails(t, "the last", segs{1: seg(1, "a", "b") + turned(r, at)}, api.ErrSum)
			fails(t, "between", segs{1: seg(1, "a") + turned(r, at) + record("b"), 2: seg(3, "c")}, api.ErrSum)
		}
	}
	short := []byte(record("words"))
	short[0]--
	fails(t, "a lesser count", segs{1: seg(1) + string(short)}, api.ErrSum)
	short[0] += 2
	fails(t, "a greater count, not all there", segs{1: seg(1) + string(short)}, api.OK)
	fails(t, "a greater count, all there", segs{1: seg(1) + string(short) + "!"}, api.ErrSum)
	without := []byte(record("words"))
	binary.LittleEndian.PutUint32(without[4:], crc32.ChecksumIEEE([]byte("words")))
	fails(t, "the sum of the bytes alone", segs{1: seg(1) + string(without)}, api.ErrSum)
}

// P7.2: of several errors that is told which is met first.
func TestOpenFirstError(t *testing.T) {
	long := "\x01\x00\x10\x00"
	bad := turned(record("x"), 8)
	wrongHead := turned(head(0), 11)
	for _, x := range []struct {
		what string
		have segs
		want api.Errno
	}{
		{"a head's sum, its number", segs{1: wrongHead}, api.ErrSum},
		{"a head's sum, a record that is too long", segs{1: wrongHead + long}, api.ErrSum},
		{"a head's number, a record's sum", segs{1: head(0) + bad}, api.ErrForm},
		{"another head's number, a record's sum", segs{1: seg(1, "a"), 2: head(3) + bad}, api.ErrForm},
		{"a record's sum, one that is too long", segs{1: seg(1) + bad + long}, api.ErrSum},
		{"one that is too long, a record's sum", segs{1: seg(1) + long + bad}, api.ErrForm},
		{"a record's sum, the next head's number", segs{1: seg(1) + bad, 2: seg(9)}, api.ErrSum},
		{"one that is too long, the next head's sum", segs{1: seg(1) + long, 2: wrongHead}, api.ErrForm},
		{"the first head's number, the next head's sum", segs{1: seg(0), 2: wrongHead}, api.ErrForm},
		{"the first head's sum, the next head's number", segs{1: wrongHead, 2: seg(0)}, api.ErrSum},
		{"by the segments' numbers", segs{most: seg(1) + bad, 1 << 40: seg(1) + long}, api.ErrForm},
		{"behind a torn one", segs{1: seg(1) + record("x")[:8], 2: seg(1) + bad, 3: seg(0)}, api.ErrSum},
	} {
		fails(t, x.what, x.have, x.want)
	}
}

// P7.3: the first record begins a segment, with its head.
func TestAppend(t *testing.T) {
	d := disk.New(1000)
	l := opened(t, d, 40)
	add(t, l, "x", 1)
	if d.Used() != 12+9 || d.Waiting() != 1 {
		t.Errorf("the disk has %d bytes, %d wait", d.Used(), d.Waiting())
	}
	has(t, "one", d, segs{1: seg(1, "x")})
	add(t, l, "", 2)
	if n, e := l.Append(nil); n != 3 || e != api.OK {
		t.Errorf("Append of nil is %d, error %d", n, e)
	}
	has(t, "no bytes", d, segs{1: seg(1, "x", "", "")})
	tells(t, "three", l, 1, "x", "", "")
	add(t, l, "yz", 4)
	add(t, l, "!", 5)
	has(t, "another segment", d, segs{1: seg(1, "x", "", "", "yz"), 2: seg(5, "!")})
	tells(t, "five", l, 1, "x", "", "", "yz", "!")
	if l.Segs() != 2 || d.Waiting() != 5 {
		t.Errorf("Segs is %d, %d wait", l.Segs(), d.Waiting())
	}
}

// P7.3: a segment that has size bytes takes no more, one that has one less does.
func TestAppendSize(t *testing.T) {
	have := seg(1, "abc")
	for _, x := range []struct {
		size int
		want segs
	}{
		{1, segs{1: have, 2: seg(2, "d"), 3: seg(3, "e")}},
		{len(have) - 1, segs{1: have, 2: seg(2, "d", "e")}},
		{len(have), segs{1: have, 2: seg(2, "d", "e")}},
		{len(have) + 1, segs{1: have + record("d"), 2: seg(3, "e")}},
		{len(have) + 9, segs{1: have + record("d"), 2: seg(3, "e")}},
		{len(have) + 10, segs{1: have + record("d") + record("e")}},
		{math.MaxInt, segs{1: have + record("d") + record("e")}},
	} {
		for _, begun := range []bool{false, true} {
			l := opened(t, disk.New(1000), x.size)
			if begun {
				add(t, l, "abc", 1)
			} else {
				l = on(t, segs{1: have}, x.size)
			}
			add(t, l, "d", 2)
			add(t, l, "e", 3)
			has(t, "appended", l.Disk(), x.want)
			tells(t, "appended", l, 1, "abc", "d", "e")
		}
	}
}

// P7.3: where a record comes to stand behind what was read.
func TestAppendBehind(t *testing.T) {
	for _, x := range []struct {
		what  string
		have  segs
		seg   uint64
		first uint64
		added string
	}{
		{"no segment", segs{}, 1, 1, seg(1, "new")},
		{"none with a head", segs{0: ""}, 1, 1, seg(1, "new")},
		{"none with a head, greater", segs{1: "x", 7: head(9)[:11]}, 8, 1, seg(1, "new")},
		{"a head alone", segs{4: seg(6)}, 4, 6, record("new")},
		{"records", segs{2: seg(5), 4: seg(5, "a", "b")}, 4, 7, record("new")},
		{"the segment 0", segs{0: seg(1, "a")}, 0, 2, record("new")},
		{"the greatest segment", segs{most: seg(1, "a")}, most, 2, record("new")},
		{"a short one behind", segs{4: seg(6, "a"), 5: ""}, 6, 7, seg(7, "new")},
		{"a short one further behind", segs{4: seg(6, "a"), 9: "head of elev"[:11]}, 10, 7, seg(7, "new")},
		{"short ones ahead and between", segs{1: "", 2: seg(6, "a"), 3: "x", 4: seg(7, "b")}, 4, 8, record("new")},
		{"torn", segs{4: seg(6, "a") + "\x01"}, 5, 7, seg(7, "new")},
		{"torn behind its head", segs{4: seg(6) + record("ab")[:9]}, 5, 6, seg(6, "new")},
		{"torn between", segs{4: seg(6, "a") + "\x01", 5: seg(7)}, 5, 7, record("new")},
		{"the last number", segs{4: seg(1<<62-1, "a")}, 4, 1 << 62, record("new")},
	} {
		l := on(t, x.have, 1000)
		n, e := l.Append([]byte("new"))
		if n != x.first || e != api.OK || l.Disk().Waiting() != 1 {
			t.Errorf("%s: Append is %d, error %d; %d wait", x.what, n, e, l.Disk().Waiting())
		}
		x.have[x.seg] += x.added
		has(t, x.what, l.Disk(), x.have)
		add(t, l, "next", n+1)
		x.have[x.seg] += record("next")
		has(t, x.what, l.Disk(), x.have)
		if p, e := l.Get(n + 1); string(p) != "next" || e != api.OK || l.Segs() != len(x.have) {
			t.Errorf("%s: Get is %q, error %d, Segs is %d", x.what, p, e, l.Segs())
		}
	}
}

// P7.3: a record of just as many bytes as may be, and of one more, which is told ahead of the disk's being full.
func TestAppendLong(t *testing.T) {
	great := strings.Repeat("g", api.MaxRecord)
	d := disk.New(12 + 8 + api.MaxRecord)
	l := opened(t, d, 40)
	for _, full := range []bool{false, true} {
		d.Full(full)
		if n, e := l.Append([]byte(great + "g")); n != 0 || e != api.ErrLong || d.Used() != 0 {
			t.Errorf("Append of one byte more is %d, error %d", n, e)
		}
	}
	d.Full(false)
	add(t, l, great, 1)
	tells(t, "the longest", l, 1, great)
	tells(t, "opened again", opened(t, d, 40), 1, great)
	if n, e := l.Append([]byte(great + "g")); n != 0 || e != api.ErrLong {
		t.Errorf("Append of one byte more to a full disk is %d, error %d", n, e)
	}
}

// P7.3: if the disk is full, or told so, nothing has changed.
func TestAppendFull(t *testing.T) {
	refused := func(what string, l *seglog.Log, p string, want segs) {
		t.Helper()
		next, waits, count := l.Next(), l.Disk().Waiting(), l.Segs()
		if n, e := l.Append([]byte(p)); n != 0 || e != api.ErrFull {
			t.Errorf("%s: Append is %d, error %d", what, n, e)
		}
		if l.Next() != next || l.Disk().Waiting() != waits || l.Segs() != count {
			t.Errorf("%s: Next is %d, %d wait, Segs is %d", what, l.Next(), l.Disk().Waiting(), l.Segs())
		}
		has(t, what, l.Disk(), want)
	}
	small := opened(t, disk.New(21), 40)
	refused("a new segment", small, "xy", segs{})
	add(t, small, "x", 1)
	refused("no room", small, "", segs{1: seg(1, "x")})

	have := segs{1: seg(1, "a")}
	same := opened(t, laid(t, have, 9), 40)
	refused("the same segment", same, "bc", have)
	add(t, same, "b", 2)
	another := opened(t, laid(t, have, 20), 21)
	refused("another segment", another, "b", have)
	add(t, another, "", 2)

	told := opened(t, laid(t, have, 1000), 40)
	told.Disk().Full(true)
	refused("told so", told, "b", have)
	refused("told so, no bytes", told, "", have)
	told.Disk().Full(false)
	add(t, told, "b", 2)
	tells(t, "told otherwise", told, 1, "a", "b")
}

// P7.3, P1: there is no number above the greatest one: no segment is begun then, and nothing has changed.
func TestAppendLastSegment(t *testing.T) {
	have := segs{0: seg(1, "a"), most: seg(2, "b")}
	l := on(t, have, 22)
	add(t, opened(t, l.Disk().Copy(), 22), "c", 3)
	full := on(t, have, 21)
	if n, e := full.Append([]byte("c")); n != 0 || e != api.ErrFull || full.Fits(1) || !full.Fits() {
		t.Errorf("Append is %d, error %d", n, e)
	}
	has(t, "nothing has changed", full.Disk(), have)
	tells(t, "nothing has changed", full, 1, "a", "b")
	if !l.Fits(1) || l.Fits(1, 1) {
		t.Error("Fits goes beyond the last segment")
	}
}

// P7.3: Fits of what is just as great as the room, and of one byte more.
func TestFits(t *testing.T) {
	for _, x := range []struct {
		what  string
		have  segs
		size  int
		sizes []int
		need  int
	}{
		{"nothing", segs{}, 40, nil, 0},
		{"nothing more", segs{1: seg(1, "a")}, 1, nil, 0},
		{"a new segment", segs{}, 40, []int{10}, 12 + 18},
		{"no bytes", segs{}, 40, []int{0}, 12 + 8},
		{"two of one segment", segs{}, 40, []int{10, 7}, 12 + 18 + 15},
		{"two of two segments", segs{}, 30, []int{10, 7}, 12 + 18 + 12 + 15},
		{"two of one, a byte below its size", segs{}, 31, []int{10, 7}, 12 + 18 + 15},
		{"behind a record", segs{1: seg(1, "a")}, 22, []int{3}, 11},
		{"behind a record of the size", segs{1: seg(1, "a")}, 21, []int{3}, 12 + 11},
		{"behind a torn one", segs{1: seg(1, "a") + "\x01"}, 40, []int{3, 4}, 12 + 11 + 12},
		{"behind a short one", segs{1: seg(1, "a"), 2: "\x01"}, 40, []int{3}, 12 + 11},
		{"each a segment of its own", segs{1: seg(1, "a")}, 1, []int{0, 0, 5, 0}, 4*20 + 5},
		{"the longest", segs{}, 40, []int{api.MaxRecord}, 20 + api.MaxRecord},
	} {
		for _, told := range []bool{false, true} {
			just, less := laid(t, x.have, x.need), laid(t, x.have, max(x.need-1, 0))
			just.Full(told)
			if !opened(t, just, x.size).Fits(x.sizes...) {
				t.Errorf("%s: it doesn't fit into its room", x.what)
			}
			if x.need > 0 && opened(t, less, x.size).Fits(x.sizes...) {
				t.Errorf("%s: it fits into a byte less", x.what)
			}
			if just.Waiting() != 0 {
				t.Errorf("%s: %d wait", x.what, just.Waiting())
			}
			has(t, x.what, just, x.have)
		}
		l := opened(t, laid(t, x.have, x.need), x.size)
		next := l.Next()
		for i, size := range x.sizes {
			add(t, l, strings.Repeat("f", size), next+uint64(i))
		}
		if l.Disk().Used() != l.Disk().Room() || !l.Fits() || l.Fits(0) {
			t.Errorf("%s: %d of %d bytes", x.what, l.Disk().Used(), l.Disk().Room())
		}
	}
}

// P7.3, P1: there is no record of less than no bytes, or of too many, whatever the room.
func TestFitsNever(t *testing.T) {
	l := opened(t, disk.New(math.MaxInt), 40)
	for _, sizes := range [][]int{{-1}, {5, -1}, {-1, 5}, {math.MinInt}, {api.MaxRecord + 1}, {1, api.MaxRecord + 1}, {math.MaxInt}, {math.MaxInt, math.MaxInt}, {math.MaxInt, math.MinInt}} {
		if l.Fits(sizes...) {
			t.Errorf("Fits(%v)", sizes)
		}
	}
	if !l.Fits(slices.Repeat([]int{api.MaxRecord}, 5000)...) {
		t.Error("what has room doesn't fit")
	}
}

// P7.4: Sync is the disk's.
func TestSync(t *testing.T) {
	l := opened(t, disk.New(1000), 40)
	add(t, l, "a", 1)
	add(t, l, "b", 2)
	if e := l.Sync(); e != api.OK || l.Disk().Waiting() != 0 {
		t.Errorf("Sync is error %d, %d wait", e, l.Disk().Waiting())
	}
	add(t, l, "c", 3)
	tells(t, "a crash", opened(t, l.Disk().Crash(0, 0), 40), 1, "a", "b")
	l.Disk().Full(true)
	if e := l.Sync(); e != api.OK || l.Disk().Waiting() != 0 {
		t.Errorf("Sync of a full disk is error %d, %d wait", e, l.Disk().Waiting())
	}
}

// P7.4: Trim with each number: which segments are left, and that Spare told how many go.
func TestTrim(t *testing.T) {
	have := segs{0: "", 1: seg(5, "a", "b"), 2: "x", 4: seg(7, "c") + "\x01", 5: seg(8, "d", "e"), 6: head(1)[:11], 8: seg(10, "f", "g"), 9: "y", 11: ""}
	all := []string{"a", "b", "c", "d", "e", "f", "g"}
	for _, x := range []struct {
		n    uint64
		left []uint64
	}{
		{0, []uint64{1, 4, 5, 8}}, {1, []uint64{1, 4, 5, 8}}, {5, []uint64{1, 4, 5, 8}}, {6, []uint64{1, 4, 5, 8}},
		{7, []uint64{4, 5, 8}}, {8, []uint64{5, 8}}, {9, []uint64{5, 8}},
		{10, []uint64{8}}, {11, []uint64{8}}, {12, []uint64{8}}, {13, []uint64{8}}, {most, []uint64{8}},
	} {
		l := on(t, have, 1000)
		dropped := len(have) - len(x.left)
		if got := l.Spare(x.n); got != dropped || l.Disk().Waiting() != 0 {
			t.Errorf("Spare(%d) is %d, want %d", x.n, got, dropped)
		}
		if got := l.Trim(x.n); got != dropped || l.Disk().Waiting() != dropped {
			t.Errorf("Trim(%d) is %d, want %d; %d wait", x.n, got, dropped, l.Disk().Waiting())
		}
		if got := l.Disk().Segs(); !slices.Equal(got, x.left) || l.Segs() != len(x.left) {
			t.Errorf("Trim(%d) leaves %v, Segs is %d", x.n, got, l.Segs())
		}
		first := map[uint64]uint64{1: 5, 4: 7, 5: 8, 8: 10}[x.left[0]]
		tells(t, "trimmed", l, first, all[first-5:]...)
		if l.Spare(x.n) != 0 || l.Trim(x.n) != 0 || l.Disk().Waiting() != dropped {
			t.Errorf("Trim(%d) once more drops something", x.n)
		}
		// No segment stands behind the last one with a head any more.
		add(t, l, "new", 12)
		if p, _ := l.Disk().Read(8); string(p) != have[8]+record("new") {
			t.Errorf("behind Trim(%d) the record stands elsewhere", x.n)
		}
		tells(t, "opened again", opened(t, l.Disk(), 1), first, append(slices.Clone(all[first-5:]), "new")...)
	}
}

// P7.4: the segments are dropped by their numbers rising.
func TestTrimRising(t *testing.T) {
	have := segs{1: "x", 3: seg(5, "a"), 4: "", 7: seg(6, "b"), 1 << 63: seg(7, "c"), most: "y"}
	numbers := []uint64{1, 3, 4, 7, 1 << 63, most}
	l := on(t, have, 1000)
	if got := l.Trim(100); got != 5 {
		t.Fatalf("Trim is %d", got)
	}
	gone := slices.DeleteFunc(slices.Clone(numbers), func(n uint64) bool { return n == 1<<63 })
	for keep := range 6 {
		want := slices.DeleteFunc(slices.Clone(numbers), func(n uint64) bool { return slices.Contains(gone[:keep], n) })
		if got := l.Disk().Crash(keep, 0).Segs(); !slices.Equal(got, want) {
			t.Errorf("of the first %d Drops %v are left, want %v", keep, got, want)
		}
	}
}

// P7.4: a segment without records has none of n or more; it goes, but if it is the last one with a head.
func TestTrimEmpty(t *testing.T) {
	l := on(t, segs{1: seg(5, "a"), 2: seg(6) + "\x01", 3: seg(6), 4: seg(6, "b"), 5: seg(7)}, 1000)
	if l.Spare(0) != 2 || l.Trim(0) != 2 {
		t.Errorf("Spare(0) is %d now", l.Spare(0))
	}
	has(t, "Trim(0)", l.Disk(), segs{1: seg(5, "a"), 4: seg(6, "b"), 5: seg(7)})
	tells(t, "Trim(0)", l, 5, "a", "b")
	if got := l.Trim(7); got != 2 {
		t.Errorf("Trim(7) is %d", got)
	}
	has(t, "Trim(7)", l.Disk(), segs{5: seg(7)})
	tells(t, "Trim(7)", l, 7)
	tells(t, "opened again", opened(t, l.Disk(), 1), 7)
	add(t, l, "c", 7)
	tells(t, "appended", l, 7, "c")

	torn := on(t, segs{4: seg(9, "a"), 5: seg(10) + "\x01", 8: "z"}, 1000)
	if got := torn.Trim(10); got != 2 {
		t.Errorf("Trim(10) is %d", got)
	}
	tells(t, "a torn one is left", torn, 10)
	add(t, torn, "b", 10)
	has(t, "behind it", torn.Disk(), segs{5: seg(10) + "\x01", 6: seg(10, "b")})
}

// P7.4: without a head all are dropped, and it is as new.
func TestTrimShort(t *testing.T) {
	for _, n := range []uint64{0, 1, most} {
		l := on(t, segs{0: "", 3: "x", 8: head(7)[:11]}, 1000)
		if l.Spare(n) != 3 || l.Trim(n) != 3 || l.Segs() != 0 || l.Disk().Used() != 0 {
			t.Errorf("Trim(%d) leaves %d", n, l.Segs())
		}
		tells(t, "nothing", l, 1)
		add(t, l, "a", 1)
		has(t, "as new", l.Disk(), segs{1: seg(1, "a")})
	}
	l := opened(t, disk.New(10), 5)
	if l.Spare(most) != 0 || l.Trim(most) != 0 || l.Disk().Waiting() != 0 {
		t.Error("there is something to trim on a new disk")
	}
}

// P7.4, P2: All tells what is there when it is asked, as often as it is gone through, whatever comes meanwhile.
func TestAll(t *testing.T) {
	l := opened(t, disk.New(10000), 30)
	all := l.All()
	want := ""
	for i, b := range []string{"a", "b", "c", "", "d"} {
		add(t, l, b, uint64(i+1))
		want += string(rune('1'+i)) + b + " "
	}
	for range all {
		t.Fatal("a record that came behind the call")
	}
	all = l.All()
	for range 2 {
		got := ""
		for n, p := range all {
			got += string(rune('0'+n)) + string(p) + " "
			add(t, l, "more", l.Next())
			l.Trim(l.Next())
		}
		if got != want {
			t.Errorf("All tells %q, want %q", got, want)
		}
	}
	for n := range all {
		if n == 3 {
			break
		}
		if n > 3 {
			t.Fatal("it goes on")
		}
	}
	if l.Next() != 16 || l.First() <= 5 {
		t.Errorf("First is %d, Next %d", l.First(), l.Next())
	}
}

// P7.4, P2: what All answered stays, whatever becomes of the segments.
func TestAllStays(t *testing.T) {
	for _, do := range []func(*seglog.Log){
		func(l *seglog.Log) { l.Trim(l.Next()) },
		func(l *seglog.Log) { add(t, l, "more", l.Next()) },
		func(l *seglog.Log) { l.Disk().Full(true) },
	} {
		l := on(t, segs{1: seg(1, "a"), 2: seg(2, "b", "c"), 3: "", 4: seg(4, "d"), 5: seg(5, "e")}, 1000)
		all, got := l.All(), ""
		do(l)
		for n, p := range all {
			got += string(rune('0'+n)) + string(p) + " "
		}
		if got != "1a 2b 3c 4d 5e " {
			t.Errorf("All tells %q", got)
		}
	}
}

// Rule of nil objects: a nil log answers ErrNone, zero values, nothing.
func TestNil(t *testing.T) {
	var l *seglog.Log
	if n, e := l.Append([]byte("x")); n != 0 || e != api.ErrNone {
		t.Errorf("Append is %d, error %d", n, e)
	}
	if n, e := l.Append(make([]byte, api.MaxRecord+1)); n != 0 || e != api.ErrNone {
		t.Errorf("Append of too many is %d, error %d", n, e)
	}
	if p, e := l.Get(1); p != nil || e != api.ErrNone {
		t.Errorf("Get is %q, error %d", p, e)
	}
	if e := l.Sync(); e != api.ErrNone {
		t.Errorf("Sync is error %d", e)
	}
	if l.Fits() || l.Fits(1) || l.Trim(1) != 0 || l.Spare(1) != 0 || l.First() != 0 || l.Next() != 0 || l.Segs() != 0 || l.Disk() != nil {
		t.Error("a nil log tells something")
	}
	for range l.All() {
		t.Error("a nil log has a record")
	}
}

// overwrite writes over all of p's memory.
func overwrite(p []byte) {
	p = p[:cap(p)]
	for i := range p {
		p[i] = 0x55
	}
}

// Rule of memory: what is handed in is neither changed, nor its spare room, nor kept.
func TestArgumentMemory(t *testing.T) {
	l := opened(t, disk.New(1000), 40)
	for i, b := range []string{"", "a", "some words"} {
		whole := append([]byte(b), bytes.Repeat([]byte{0xee}, 64)...)
		before := bytes.Clone(whole)
		r := seglog.Record(whole[:len(b)])
		if n, e := l.Append(whole[:len(b)]); n != uint64(i+1) || e != api.OK {
			t.Fatalf("Append is %d, error %d", n, e)
		}
		if !bytes.Equal(whole, before) {
			t.Errorf("what was handed in changed: %x", whole)
		}
		overwrite(whole)
		if string(r) != record(b) {
			t.Errorf("a record shares memory: %x", r)
		}
		overwrite(r)
	}
	tells(t, "not kept", l, 1, "", "a", "some words")
	whole := []int{3, 4, 1000, 1000}
	if !l.Fits(whole[:2]...) || !slices.Equal(whole, []int{3, 4, 1000, 1000}) {
		t.Errorf("the sizes changed: %v", whole)
	}
}

// Rule of memory: what is told is the caller's own.
func TestAnswerMemory(t *testing.T) {
	want := []string{"one", "", "three", "four"}
	l := on(t, segs{1: seg(1, "one", "", "three"), 2: seg(4, "four")}, 40)
	all := l.All()
	for range 2 {
		var kept [][]byte
		for _, p := range all {
			kept = append(kept, p)
		}
		for i, p := range kept {
			// All that is told by one call, each apart from the others.
			if string(p) != want[i] {
				t.Fatalf("record %d is %q", i+1, p)
			}
			overwrite(p)
		}
		for _, p := range all {
			overwrite(p)
		}
		for n := range uint64(5) {
			one, _ := l.Get(n)
			two, _ := l.Get(n)
			overwrite(one)
			if n > 0 && string(two) != want[n-1] {
				t.Errorf("two answers share memory: %q", two)
			}
		}
		tells(t, "its own", l, 1, want...)
	}
	h := seglog.Head(3)
	overwrite(h)
	if string(seglog.Head(3)) != head(3) {
		t.Error("heads share memory")
	}
	tells(t, "opened again", opened(t, l.Disk(), 40), 1, want...)
}
