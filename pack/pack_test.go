package pack_test

import (
	"bytes"
	"encoding/binary"
	"math"
	"math/rand"
	"testing"

	"sumpter/api"
	"sumpter/pack"
)

// written are numbers, and how they are written: the edges of each length.
var written = []struct {
	n uint64
	p []byte
}{
	{0, []byte{0}},
	{1, []byte{1}},
	{127, []byte{0x7f}},
	{128, []byte{0x80, 1}},
	{129, []byte{0x81, 1}},
	{300, []byte{0xac, 2}},
	{1<<14 - 1, []byte{0xff, 0x7f}},
	{1 << 14, []byte{0x80, 0x80, 1}},
	{1<<56 - 1, []byte{0xff, 0xff, 0xff, 0xff, 0xff, 0xff, 0xff, 0x7f}},
	{1 << 56, []byte{0x80, 0x80, 0x80, 0x80, 0x80, 0x80, 0x80, 0x80, 1}},
	{1<<63 - 1, []byte{0xff, 0xff, 0xff, 0xff, 0xff, 0xff, 0xff, 0xff, 0x7f}},
	{1 << 63, []byte{0x80, 0x80, 0x80, 0x80, 0x80, 0x80, 0x80, 0x80, 0x80, 1}},
	{math.MaxUint64, []byte{0xff, 0xff, 0xff, 0xff, 0xff, 0xff, 0xff, 0xff, 0xff, 1}},
}

// ten answers ten bytes, nine times b and then last, and what comes behind.
func ten(b, last byte, behind ...byte) []byte {
	return append(append(bytes.Repeat([]byte{b}, 9), last), behind...)
}

// numbers are numbers of all lengths, the same in every run.
func numbers() []uint64 {
	out := []uint64{0, 1, math.MaxUint64}
	source := rand.New(rand.NewSource(2))
	for i := range 64 {
		out = append(out, 1<<i, 1<<i-1, source.Uint64()>>i)
	}
	return out
}

// P2.1: Num, in as few bytes as can be, behind what is there.
func TestNum(t *testing.T) {
	for _, x := range written {
		if got := pack.Num(nil, x.n); !bytes.Equal(got, x.p) {
			t.Errorf("Num(nil, %d) = %x, want %x", x.n, got, x.p)
		}
		if got, want := pack.Num([]byte{9, 0x80}, x.n), append([]byte{9, 0x80}, x.p...); !bytes.Equal(got, want) {
			t.Errorf("Num(0980, %d) = %x, want %x", x.n, got, want)
		}
	}
	for _, n := range numbers() {
		if got, want := pack.Num([]byte{}, n), binary.AppendUvarint(nil, n); !bytes.Equal(got, want) {
			t.Errorf("Num(, %d) = %x, want %x", n, got, want)
		}
	}
}

// P2.1: Bytes, how many and they themselves, behind what is there; none are one byte 0.
func TestBytes(t *testing.T) {
	for _, size := range []int{0, 1, 2, 127, 128, 300, 1 << 14} {
		b := bytes.Repeat([]byte{0xa5}, size)
		want := append(binary.AppendUvarint([]byte{7}, uint64(size)), b...)
		if got := pack.Bytes([]byte{7}, b); !bytes.Equal(got, want) {
			t.Errorf("Bytes of %d bytes = %x, want %x", size, got, want)
		}
	}
	if got := pack.Bytes(nil, nil); !bytes.Equal(got, []byte{0}) {
		t.Errorf("Bytes(nil, nil) = %x", got)
	}
	if got := pack.Bytes([]byte{1}, nil); !bytes.Equal(got, []byte{1, 0}) {
		t.Errorf("Bytes(01, nil) = %x", got)
	}
}

// P2.2: what was written is read, one behind the other, and Left tells what is left.
func TestRead(t *testing.T) {
	p := pack.Bytes(pack.Num(pack.Num([]byte{200}, 300), 0), []byte("hi"))
	p = pack.Num(pack.Bytes(p, nil), math.MaxUint64)
	in := pack.Of(p)
	if got := in.Left(); got != len(p) {
		t.Errorf("Left at the beginning = %d, want %d", got, len(p))
	}
	if got := in.Byte(); got != 200 || in.Left() != 17 {
		t.Errorf("Byte = %d, %d left", got, in.Left())
	}
	if got := in.Num(); got != 300 || in.Left() != 15 {
		t.Errorf("Num = %d, %d left", got, in.Left())
	}
	if got := in.Num(); got != 0 || in.Left() != 14 || in.Err() != api.OK {
		t.Errorf("Num = %d, %d left, %d", got, in.Left(), in.Err())
	}
	if got := in.Bytes(2); string(got) != "hi" || in.Left() != 11 {
		t.Errorf("Bytes = %q, %d left", got, in.Left())
	}
	if got := in.Bytes(0); len(got) != 0 || in.Left() != 10 || in.Err() != api.OK {
		t.Errorf("Bytes = %q, %d left, %d", got, in.Left(), in.Err())
	}
	if got := in.Num(); got != math.MaxUint64 || in.Left() != 0 {
		t.Errorf("Num = %d, %d left", got, in.Left())
	}
	if in.Err() != api.OK || in.End() != api.OK || in.Err() != api.OK {
		t.Errorf("at the end: %d", in.Err())
	}
}

// P2.2: every number is read back, with bytes behind it or none.
func TestReadNumbers(t *testing.T) {
	for _, x := range written {
		in := pack.Of(append(bytes.Clone(x.p), 0x80))
		if got := in.Num(); got != x.n || in.Left() != 1 || in.Err() != api.OK {
			t.Errorf("Num of %x = %d, %d left, %d", x.p, got, in.Left(), in.Err())
		}
	}
	for _, n := range numbers() {
		in := pack.Of(pack.Num(nil, n))
		if got := in.Num(); got != n || in.End() != api.OK {
			t.Errorf("Num of %d written = %d, %d", n, got, in.End())
		}
	}
}

// wrongNumbers are bytes that aren't a number, and the error.
func wrongNumbers() map[string]api.Errno {
	return map[string]api.Errno{
		"":                                    api.ErrForm,
		"\x80":                                api.ErrForm,
		"\xff\xff":                            api.ErrForm,
		string(bytes.Repeat([]byte{0x80}, 9)): api.ErrForm,
		string(bytes.Repeat([]byte{0xff}, 9)): api.ErrForm,
		// More bytes than needed.
		"\x80\x00":              api.ErrForm,
		"\xff\x00":              api.ErrForm,
		"\x80\x00\x05":          api.ErrForm,
		"\x80\x80\x00":          api.ErrForm,
		"\xac\x82\x00":          api.ErrForm,
		string(ten(0x80, 0)):    api.ErrForm,
		string(ten(0xff, 0)):    api.ErrForm,
		string(ten(0xff, 0, 7)): api.ErrForm,
		// More than 64 bits, whatever comes behind.
		string(ten(0xff, 2)):          api.ErrOver,
		string(ten(0x80, 2)):          api.ErrOver,
		string(ten(0x80, 3)):          api.ErrOver,
		string(ten(0x80, 0x7f)):       api.ErrOver,
		string(ten(0x80, 0x80)):       api.ErrOver,
		string(ten(0x80, 0x81)):       api.ErrOver,
		string(ten(0xff, 0xff)):       api.ErrOver,
		string(ten(0x80, 0x80, 0)):    api.ErrOver,
		string(ten(0x80, 0x81, 0)):    api.ErrOver,
		string(ten(0x80, 0x80, 1)):    api.ErrOver,
		string(ten(0xff, 0xff, 0xff)): api.ErrOver,
		string(ten(0xff, 2, 1, 2, 3)): api.ErrOver,
	}
}

// P2.2: a wrong number is 0 and its error, and all its bytes are left; so it is where it tells how many bytes there are.
func TestWrongNumbers(t *testing.T) {
	for p, want := range wrongNumbers() {
		in := pack.Of([]byte(p))
		if got := in.Num(); got != 0 || in.Err() != want || in.Left() != len(p) {
			t.Errorf("Num of %x = %d, %d, %d left; want error %d", p, got, in.Err(), in.Left(), want)
		}
		in = pack.Of([]byte(p))
		if got := in.Bytes(math.MaxInt); got != nil || in.Err() != want || in.Left() != len(p) {
			t.Errorf("Bytes of %x = %x, %d, %d left; want error %d", p, got, in.Err(), in.Left(), want)
		}
		in = pack.Of([]byte(p))
		if got := in.Bytes(-1); got != nil || in.Err() != want {
			t.Errorf("Bytes(-1) of %x = %x, %d; want error %d", p, got, in.Err(), want)
		}
	}
}

// P2.2: a byte that isn't there.
func TestByteMissing(t *testing.T) {
	for _, p := range [][]byte{nil, {}} {
		in := pack.Of(p)
		if got := in.Byte(); got != 0 || in.Err() != api.ErrForm || in.Left() != 0 {
			t.Errorf("Byte of nothing = %d, %d, %d left", got, in.Err(), in.Left())
		}
	}
}

// P2.2: Bytes up to most; more is ErrLong, also where they aren't all there; else missing ones are ErrForm.
func TestBytesMost(t *testing.T) {
	huge := pack.Num(nil, math.MaxUint64)
	half := pack.Num(nil, 1<<63)
	for _, x := range []struct {
		p    []byte
		most int
		got  string
		err  api.Errno
	}{
		{[]byte{3, 'a', 'b', 'c'}, 3, "abc", api.OK},
		{[]byte{3, 'a', 'b', 'c'}, math.MaxInt, "abc", api.OK},
		{[]byte{3, 'a', 'b', 'c', 'd'}, 4, "abc", api.OK},
		{[]byte{3, 'a', 'b', 'c'}, 2, "", api.ErrLong},
		{[]byte{3, 'a', 'b', 'c'}, 0, "", api.ErrLong},
		{[]byte{3, 'a', 'b', 'c'}, -1, "", api.ErrLong},
		{[]byte{3, 'a', 'b', 'c'}, math.MinInt, "", api.ErrLong},
		{[]byte{3, 'a', 'b'}, 2, "", api.ErrLong},
		{[]byte{3, 'a', 'b'}, 3, "", api.ErrForm},
		{[]byte{3}, 9, "", api.ErrForm},
		{[]byte{0}, 0, "", api.OK},
		{[]byte{0}, -1, "", api.ErrLong},
		{huge, math.MaxInt, "", api.ErrLong},
		{huge, -1, "", api.ErrLong},
		{half, math.MaxInt, "", api.ErrLong},
		{pack.Num(nil, math.MaxInt64), math.MaxInt, "", api.ErrForm},
		{pack.Num(nil, math.MaxInt64), math.MaxInt - 1, "", api.ErrLong},
	} {
		in := pack.Of(x.p)
		got := in.Bytes(x.most)
		if string(got) != x.got || in.Err() != x.err {
			t.Errorf("Bytes(%d) of %x = %q, %d; want %q, %d", x.most, x.p, got, in.Err(), x.got, x.err)
		}
		left := len(x.p)
		if x.err == api.OK {
			left -= 1 + len(x.got)
		}
		if in.Left() != left {
			t.Errorf("Bytes(%d) of %x: %d left, want %d", x.most, x.p, in.Left(), left)
		}
	}
}

// stays asks everything of what has an error, and looks that the error and the bytes left stay.
func stays(t *testing.T, in *pack.In, want api.Errno, left int) {
	t.Helper()
	for range 2 {
		if b, n, l := in.Byte(), in.Num(), in.Bytes(99); b != 0 || n != 0 || len(l) != 0 {
			t.Errorf("behind an error: %d, %d, %x", b, n, l)
		}
		in.Fail(api.ErrTwice)
		in.Fail(api.OK)
		if in.Err() != want || in.End() != want || in.Err() != want || in.Left() != left {
			t.Errorf("behind error %d: %d, %d left, want %d left", want, in.Err(), in.Left(), left)
		}
	}
}

// P2.2: once there was an error it stays, nothing more is read, and as many bytes are left as ahead of it.
func TestErrorStays(t *testing.T) {
	in := pack.Of([]byte{1, 2, 0x80, 0, 5, 6})
	in.Byte()
	in.Byte()
	in.Num()
	stays(t, in, api.ErrForm, 4)

	in = pack.Of(append([]byte{4}, ten(0xff, 2, 1, 1)...))
	in.Num()
	in.Num()
	stays(t, in, api.ErrOver, 12)

	in = pack.Of([]byte{4, 3, 1, 2, 3})
	in.Byte()
	in.Bytes(2)
	stays(t, in, api.ErrLong, 4)

	in = pack.Of([]byte{4, 3, 1, 2})
	in.Byte()
	in.Bytes(3)
	stays(t, in, api.ErrForm, 3)

	in = pack.Of(nil)
	in.Byte()
	stays(t, in, api.ErrForm, 0)
}

// P2.2: Fail makes an error where there was none, of any number but OK, and reads nothing.
func TestFail(t *testing.T) {
	for _, e := range []api.Errno{api.ErrArg, api.ErrSum, api.ErrNone, api.ErrOld, 99, -1} {
		in := pack.Of([]byte{5, 6})
		in.Byte()
		in.Fail(e)
		stays(t, in, e, 1)
	}
	in := pack.Of([]byte{5})
	in.Fail(api.OK)
	if got := in.Byte(); got != 5 || in.Err() != api.OK || in.End() != api.OK {
		t.Errorf("behind Fail(OK): %d, %d", got, in.Err())
	}
	in.Fail(api.ErrOld)
	stays(t, in, api.ErrOld, 0)
}

// P2.2: End with bytes left is ErrForm, from then on; with none left it is none, and reading goes on as before.
func TestEnd(t *testing.T) {
	in := pack.Of([]byte{1, 2, 3})
	in.Byte()
	if in.End() != api.ErrForm {
		t.Errorf("End with bytes left = %d", in.End())
	}
	stays(t, in, api.ErrForm, 2)

	in = pack.Of(nil)
	if in.End() != api.OK || in.Err() != api.OK {
		t.Errorf("End of nothing = %d", in.End())
	}
	in.Fail(api.ErrSum)
	stays(t, in, api.ErrSum, 0)

	in = pack.Of([]byte{1})
	in.Fail(api.ErrOver)
	if in.End() != api.ErrOver {
		t.Errorf("End behind another error = %d", in.End())
	}
}

// P2.2: a nil In has ErrNone, 0 and nothing, whatever it was told.
func TestNilIn(t *testing.T) {
	var in *pack.In
	for range 2 {
		if b, n, l, left := in.Byte(), in.Num(), in.Bytes(9), in.Left(); b != 0 || n != 0 || len(l) != 0 || left != 0 {
			t.Errorf("of a nil In: %d, %d, %x, %d", b, n, l, left)
		}
		if in.Err() != api.ErrNone || in.End() != api.ErrNone {
			t.Errorf("of a nil In: Err %d, End %d", in.Err(), in.End())
		}
		in.Fail(api.ErrSum)
	}
	if in.Bytes(-1) != nil || in.Err() != api.ErrNone {
		t.Errorf("of a nil In: %d", in.Err())
	}
}

// roomy answers p with spare room behind it, and the whole of it.
func roomy(p []byte) (row, whole []byte) {
	whole = append(bytes.Clone(p), bytes.Repeat([]byte{0xee}, 32)...)
	return whole[:len(p)], whole
}

// overwrite writes over all of p's memory.
func overwrite(p []byte) {
	p = p[:cap(p)]
	for i := range p {
		p[i] = 0x55
	}
}

// Rule of memory: what is written behind a row stands in new memory, and the row's spare room stays.
func TestWriteMemory(t *testing.T) {
	calls := map[string]func(p []byte) []byte{
		"Num 0":       func(p []byte) []byte { return pack.Num(p, 0) },
		"Num 300":     func(p []byte) []byte { return pack.Num(p, 300) },
		"Num most":    func(p []byte) []byte { return pack.Num(p, math.MaxUint64) },
		"Bytes none":  func(p []byte) []byte { return pack.Bytes(p, nil) },
		"Bytes some":  func(p []byte) []byte { return pack.Bytes(p, []byte("some")) },
		"Bytes p p":   func(p []byte) []byte { return pack.Bytes(p, p) },
		"Bytes b":     func(p []byte) []byte { return pack.Bytes([]byte("p"), p) },
		"Bytes spare": func(p []byte) []byte { return pack.Bytes(p, p[len(p):cap(p)]) },
	}
	for name, call := range calls {
		for _, p := range [][]byte{{}, {1}, []byte("123456789")} {
			row, whole := roomy(p)
			before := bytes.Clone(whole)
			first, second := call(row), call(row)
			want := bytes.Clone(second)
			overwrite(first)
			if !bytes.Equal(second, want) {
				t.Errorf("%s, %x: two answers share memory", name, p)
			}
			if !bytes.Equal(whole, before) {
				t.Errorf("%s, %x: the argument or its spare room changed", name, p)
			}
			overwrite(whole)
			if !bytes.Equal(second, want) {
				t.Errorf("%s, %x: the answer shares memory with the argument", name, p)
			}
		}
	}
}

// Rule of memory: one row that two are written behind keeps them apart.
func TestTwoBehindOne(t *testing.T) {
	row := pack.Num(nil, 7)
	a, b := pack.Num(row, 1), pack.Num(row, 2)
	if !bytes.Equal(a, []byte{7, 1}) || !bytes.Equal(b, []byte{7, 2}) || !bytes.Equal(row, []byte{7}) {
		t.Errorf("%x, %x behind %x", a, b, row)
	}
}

// Rule of memory: what is read stays what it was when Of was called, and isn't touched by reading or by what is done with answers.
func TestReadMemory(t *testing.T) {
	row, whole := roomy([]byte{1, 0xac, 2, 2, 'h', 'i', 2, 'y', 'o'})
	before := bytes.Clone(whole)
	in, other := pack.Of(row), pack.Of(row)
	in.Byte()
	in.Num()
	first := in.Bytes(2)
	overwrite(first)
	if !bytes.Equal(whole, before) {
		t.Errorf("reading changed the argument: %x", whole)
	}
	overwrite(whole)
	if got := in.Bytes(2); string(got) != "yo" || in.End() != api.OK {
		t.Errorf("what is left changed: %q, %d", got, in.Err())
	}
	if other.Byte() != 1 || other.Num() != 300 {
		t.Errorf("another reader changed: %d", other.Err())
	}
	kept := other.Bytes(2)
	if string(kept) != "hi" || string(other.Bytes(2)) != "yo" || string(kept) != "hi" {
		t.Errorf("an earlier answer changed: %q", kept)
	}
}

// P1, P2: whatever bytes are read in whatever order, no call panics, Left never grows and stays at an error, and reading again answers the same.
func TestAnyBytes(t *testing.T) {
	source := rand.New(rand.NewSource(4))
	for range 20000 {
		p := make([]byte, source.Intn(14))
		for i := range p {
			p[i] = []byte{0, 1, 2, 3, 0x7f, 0x80, 0x81, 0xff}[source.Intn(8)]
		}
		a, b := pack.Of(p), pack.Of(p)
		for range 6 {
			left, kind, most := a.Left(), source.Intn(3), source.Intn(5)-1
			if x, y := readOne(a, kind, most), readOne(b, kind, most); !bytes.Equal(x, y) || a.Err() != b.Err() || a.Left() != b.Left() {
				t.Fatalf("%x: read twice: %x, %d; %x, %d", p, x, a.Err(), y, b.Err())
			}
			if a.Left() > left || a.Err() != api.OK && a.Left() != left {
				t.Fatalf("%x: %d left, then %d", p, left, a.Left())
			}
		}
	}
}

// readOne reads one part of that kind, and writes it anew.
func readOne(in *pack.In, kind, most int) []byte {
	switch kind {
	case 0:
		return []byte{in.Byte()}
	case 1:
		return pack.Num(nil, in.Num())
	}
	return pack.Bytes(nil, in.Bytes(most))
}

// P2.1, P2.2: a number that is read is written the same way again, so that each is written in one way alone.
func TestOneWay(t *testing.T) {
	source := rand.New(rand.NewSource(5))
	for range 20000 {
		p := make([]byte, 11)
		source.Read(p)
		for i := range source.Intn(11) {
			p[i] |= 0x80
		}
		in := pack.Of(p)
		n := in.Num()
		if in.Err() != api.OK {
			continue
		}
		if size := len(p) - in.Left(); !bytes.Equal(pack.Num(nil, n), p[:size]) {
			t.Fatalf("%x was read as %d", p[:size], n)
		}
	}
}
