package span_test

import (
	"bytes"
	"math"
	"math/rand"
	"testing"

	"sumpter/api"
	"sumpter/pack"
	"sumpter/span"
)

// body answers a body of that many bytes.
func body(size int) []byte {
	return bytes.Repeat([]byte{0xa5}, size)
}

// same tells whether two items have the same number and the same span.
func same(a, b span.Item) bool {
	return a.Number == b.Number && span.Same(a.Span, b.Span)
}

// P4.1: a span may be by its class and by how long its body is; so may an item, by its span.
func TestRight(t *testing.T) {
	for _, x := range []struct {
		class, size int
		want        bool
	}{
		{0, 0, true},
		{2, 2, true},
		{api.MaxClasses - 1, api.MaxBody, true},
		{0, api.MaxBody, true},
		{0, api.MaxBody + 1, false},
		{api.MaxClasses, 0, false},
		{api.MaxClasses, api.MaxBody + 1, false},
		{-1, 0, false},
		{256, 0, false},
		{math.MaxInt, 0, false},
		{math.MinInt, 0, false},
	} {
		s := span.Span{Class: x.class, Body: body(x.size)}
		if s.Right() != x.want || (span.Item{Number: 7, Span: s}).Right() != x.want {
			t.Errorf("class %d, %d bytes: Right is %v", x.class, x.size, !x.want)
		}
	}
	if !(span.Span{}).Right() {
		t.Error("a zero Span isn't Right")
	}
}

// P4.1: Size is the body's bytes and Over, of those that aren't Right too.
func TestSize(t *testing.T) {
	if span.Over != 16 {
		t.Errorf("Over is %d", span.Over)
	}
	for _, size := range []int{0, 1, 2, api.MaxBody, api.MaxBody + 1} {
		for _, class := range []int{0, 2, -1, api.MaxClasses} {
			s := span.Span{Class: class, Body: body(size)}
			if s.Size() != size+16 || (span.Item{Number: 9, Span: s}).Size() != size+16 {
				t.Errorf("class %d, %d bytes: Size is %d", class, size, s.Size())
			}
		}
	}
	if got := (span.Span{}).Size(); got != 16 {
		t.Errorf("Size of a zero Span is %d", got)
	}
}

// P4.1: Same goes by class and body, of those that aren't Right too; no body and an empty one are the same.
func TestSame(t *testing.T) {
	l := []span.Span{
		{}, {Class: 1}, {Class: -1}, {Class: 256},
		{Body: []byte{0}}, {Body: []byte("hi")}, {Body: []byte("hj")}, {Body: []byte("h")},
		{Class: 1, Body: []byte("hi")}, {Body: body(api.MaxBody + 1)}, {Body: body(api.MaxBody)},
	}
	for i, a := range l {
		for j, b := range l {
			b.Body = bytes.Clone(b.Body)
			if span.Same(a, b) != (i == j) {
				t.Errorf("Same of class %d, %x and class %d, %x is %v", a.Class, a.Body, b.Class, b.Body, i != j)
			}
		}
	}
	if !span.Same(span.Span{Class: 3}, span.Span{Class: 3, Body: []byte{}}) {
		t.Error("no body and an empty one aren't the same")
	}
}

// P4.1: an ID is Less by its agent, then by its number, and never than itself.
func TestLess(t *testing.T) {
	rising := []span.ID{
		{Agent: math.MinInt, Number: 5}, {Agent: -1, Number: math.MaxUint64},
		{}, {Number: 1}, {Number: 1 << 63}, {Number: math.MaxUint64},
		{Agent: 1}, {Agent: 1, Number: 9}, {Agent: 1, Number: 10},
		{Agent: 2, Number: 1}, {Agent: math.MaxInt},
	}
	for i, a := range rising {
		for j, b := range rising {
			if a.Less(b) != (i < j) {
				t.Errorf("%v Less than %v is %v", a, b, i >= j)
			}
		}
	}
}

// P4.2: how a span and an item are written, behind nothing and behind something.
func TestPut(t *testing.T) {
	for _, x := range []struct {
		class int
		body  string
		want  string
	}{
		{2, "hi", "\x02\x02hi"},
		{0, "", "\x00\x00"},
		{api.MaxClasses - 1, "\x00", "\x07\x01\x00"},
		// Those that aren't Right: the class's lowest eight bits.
		{api.MaxClasses, "", "\x08\x00"},
		{255, "", "\xff\x00"},
		{256, "a", "\x00\x01a"},
		{0x1234, "", "\x34\x00"},
		{-1, "", "\xff\x00"},
		{-2, "", "\xfe\x00"},
		{math.MinInt, "", "\x00\x00"},
		{math.MaxInt, "", "\xff\x00"},
		{1, string(body(api.MaxBody)), "\x01\x80\x20" + string(body(api.MaxBody))},
		{1, string(body(api.MaxBody + 1)), "\x01\x81\x20" + string(body(api.MaxBody+1))},
	} {
		s := span.Span{Class: x.class, Body: []byte(x.body)}
		for _, ahead := range []string{"", "\x09", "\x80ahead"} {
			if got := s.Put([]byte(ahead)); string(got) != ahead+x.want {
				t.Errorf("Put of class %d, %q behind %q: %q", x.class, x.body, ahead, got)
			}
			i := span.Item{Number: 300, Span: s}
			if got := i.Put([]byte(ahead)); string(got) != ahead+"\xac\x02"+x.want {
				t.Errorf("Put of an item of class %d, %q behind %q: %q", x.class, x.body, ahead, got)
			}
		}
	}
	if got := (span.Span{}).Put(nil); !bytes.Equal(got, []byte{0, 0}) {
		t.Errorf("Put of a zero Span behind nil: %x", got)
	}
	if got := (span.Item{}).Put(nil); !bytes.Equal(got, []byte{0, 0, 0}) {
		t.Errorf("Put of a zero Item behind nil: %x", got)
	}
	if got := (span.Item{Number: math.MaxUint64}).Put(nil); string(got) != "\xff\xff\xff\xff\xff\xff\xff\xff\xff\x01\x00\x00" {
		t.Errorf("Put of the greatest number: %x", got)
	}
}

// items are items that are Right, at the edges of all that they have.
func items() []span.Item {
	var out []span.Item
	for _, n := range []uint64{0, 1, 127, 128, 300, 1 << 63, math.MaxUint64} {
		for class := range api.MaxClasses {
			out = append(out, span.Item{Number: n, Span: span.Span{Class: class, Body: body(class)}})
		}
		out = append(out, span.Item{Number: n, Span: span.Span{Class: 1, Body: body(api.MaxBody)}})
	}
	return out
}

// P4.2: what was Put is got back, one behind the other, and nothing behind it is read.
func TestBack(t *testing.T) {
	var written, spans []byte
	for _, i := range items() {
		written, spans = i.Put(written), i.Span.Put(spans)
	}
	in, of := pack.Of(append(written, 0xee)), pack.Of(append(spans, 0xee))
	for _, want := range items() {
		if got := span.GetItem(in); !same(got, want) || in.Err() != api.OK {
			t.Fatalf("number %d, class %d: %v, %d", want.Number, want.Class, got, in.Err())
		}
		if got := span.Get(of); !span.Same(got, want.Span) || of.Err() != api.OK {
			t.Fatalf("class %d: %v, %d", want.Class, got, of.Err())
		}
	}
	if in.Left() != 1 || of.Left() != 1 || in.Err() != api.OK || of.Err() != api.OK {
		t.Errorf("%d and %d bytes left", in.Left(), of.Left())
	}
}

// wrongSpans are bytes that aren't a span, the error, and how many bytes are read ahead of what has it.
func wrongSpans() []wrong {
	return []wrong{
		{"", api.ErrForm, 0},
		// A class that is none, whatever comes behind: its byte was read.
		{"\x08", api.ErrForm, 1},
		{"\x08\x00", api.ErrForm, 1},
		{"\x08\x81\x20", api.ErrForm, 1},
		{"\x08\xff\xff\xff\xff\xff\xff\xff\xff\xff\x02", api.ErrForm, 1},
		{"\x80\x00", api.ErrForm, 1},
		{"\xff\x01a", api.ErrForm, 1},
		// A body that isn't all there, or whose size isn't.
		{"\x07", api.ErrForm, 1},
		{"\x07\x01", api.ErrForm, 1},
		{"\x00\x03hi", api.ErrForm, 1},
		{"\x00\x80", api.ErrForm, 1},
		{"\x00\x80\x20", api.ErrForm, 1},
		{"\x00\x80\x20" + string(body(api.MaxBody-1)), api.ErrForm, 1},
		// A size in more bytes than it needs.
		{"\x00\x80\x00", api.ErrForm, 1},
		{"\x00\x82\x00hi", api.ErrForm, 1},
		// A body of more than may be, whether it is there or not.
		{"\x00\x81\x20" + string(body(api.MaxBody+1)), api.ErrLong, 1},
		{"\x00\x81\x20", api.ErrLong, 1},
		{"\x07\xff\xff\xff\xff\xff\xff\xff\xff\xff\x01", api.ErrLong, 1},
		// A size of more than 64 bits.
		{"\x07\xff\xff\xff\xff\xff\xff\xff\xff\xff\x02", api.ErrOver, 1},
	}
}

// wrong is bytes that aren't what is read of them.
type wrong struct {
	p    string
	err  api.Errno
	read int
}

// judge looks whether reading of x ended as it must.
func judge(t *testing.T, what string, x wrong, zero bool, in *pack.In) {
	t.Helper()
	if !zero || in.Err() != x.err || in.Left() != len(x.p)-x.read {
		t.Errorf("%s of %.20q: nothing %v, error %d, %d of %d left; want error %d, %d read", what, x.p, zero, in.Err(), in.Left(), len(x.p), x.err, x.read)
	}
}

// zeroSpan tells whether s is a zero Span.
func zeroSpan(s span.Span) bool {
	return s.Class == 0 && s.Body == nil
}

// P4.2: at an error a zero Span, the error, and what is left; the same as an item's behind its number.
func TestGetWrong(t *testing.T) {
	for _, x := range wrongSpans() {
		in := pack.Of([]byte(x.p))
		judge(t, "Get", x, zeroSpan(span.Get(in)), in)

		behind := wrong{"\xac\x02" + x.p, x.err, x.read + 2}
		in = pack.Of([]byte(behind.p))
		i := span.GetItem(in)
		judge(t, "GetItem", behind, i.Number == 0 && zeroSpan(i.Span), in)
	}
}

// P4.2: of an item whose number is wrong that is the error, whatever is wrong behind it.
func TestGetItemWrong(t *testing.T) {
	for _, x := range []wrong{
		{"", api.ErrForm, 0},
		{"\x80", api.ErrForm, 0},
		{"\x80\x00\x00\x00", api.ErrForm, 0},
		{"\xff\xff\xff\xff\xff\xff\xff\xff\xff\x02\x00\x00", api.ErrOver, 0},
		{"\xff\xff\xff\xff\xff\xff\xff\xff\xff\x02\x08\x00", api.ErrOver, 0},
		{"\x80\x00\x00\x81\x20", api.ErrForm, 0},
		{"\x05", api.ErrForm, 1},
	} {
		in := pack.Of([]byte(x.p))
		i := span.GetItem(in)
		judge(t, "GetItem", x, i.Number == 0 && zeroSpan(i.Span), in)
	}
}

// P4.2: of a nil In there is nothing.
func TestNilIn(t *testing.T) {
	if s := span.Get(nil); !zeroSpan(s) {
		t.Errorf("Get(nil) = %v", s)
	}
	if i := span.GetItem(nil); i.Number != 0 || !zeroSpan(i.Span) {
		t.Errorf("GetItem(nil) = %v", i)
	}
}

// P4.2: of an In that has an error already there is nothing, that error stays, and nothing is read.
func TestErrorAlready(t *testing.T) {
	for _, e := range []api.Errno{api.ErrArg, api.ErrForm, api.ErrLong, api.ErrTwice, 99, -1} {
		for _, p := range []string{"", "\x02\x02\x02hi", "\x08\x00", "\x05\x08\x00", "\x00\x81\x20"} {
			in := pack.Of([]byte(p))
			in.Fail(e)
			x := wrong{p, e, 0}
			judge(t, "Get behind an error", x, zeroSpan(span.Get(in)), in)
			i := span.GetItem(in)
			judge(t, "GetItem behind an error", x, i.Number == 0 && zeroSpan(i.Span), in)
		}
	}
}

// P4.2: an error of one item is the error of all behind it.
func TestErrorStays(t *testing.T) {
	p := span.Item{Number: 2, Span: span.Span{Class: 1, Body: []byte("hi")}}.Put([]byte{5, 8, 0})
	in := pack.Of(p)
	for range 3 {
		if i := span.GetItem(in); i.Number != 0 || !zeroSpan(i.Span) || in.Err() != api.ErrForm || in.Left() != len(p)-2 {
			t.Errorf("%v, %d, %d left", i, in.Err(), in.Left())
		}
	}
}

// roomy answers p with spare room behind it, and the whole of it.
func roomy(p string) (row, whole []byte) {
	whole = append([]byte(p), bytes.Repeat([]byte{0xee}, 32)...)
	return whole[:len(p)], whole
}

// overwrite writes over all of p's memory.
func overwrite(p []byte) {
	p = p[:cap(p)]
	for i := range p {
		p[i] = 0x55
	}
}

// Rule of memory: what Put answers is new, and what it was given stays, its spare room too.
func TestPutMemory(t *testing.T) {
	bodied, wholeBody := roomy("body")
	s := span.Span{Class: 2, Body: bodied}
	i := span.Item{Number: 300, Span: s}
	calls := map[string]func(p []byte) []byte{
		"a span":        s.Put,
		"an item":       i.Put,
		"no body":       span.Span{}.Put,
		"an empty item": span.Item{}.Put,
		"its own body":  func(p []byte) []byte { return span.Span{Body: p}.Put(p) },
		"a body ahead":  func(p []byte) []byte { return span.Item{Span: span.Span{Body: p}}.Put(nil) },
		"spare room":    func(p []byte) []byte { return span.Span{Body: p[len(p):cap(p)]}.Put(p) },
	}
	beforeBody := bytes.Clone(wholeBody)
	for name, call := range calls {
		for _, p := range []string{"", "\x09", "123456789"} {
			row, whole := roomy(p)
			before := bytes.Clone(whole)
			first, second := call(row), call(row)
			want := bytes.Clone(second)
			overwrite(first)
			if !bytes.Equal(second, want) {
				t.Errorf("%s behind %q: two answers share memory", name, p)
			}
			if !bytes.Equal(whole, before) || !bytes.Equal(wholeBody, beforeBody) {
				t.Errorf("%s behind %q: what was handed in changed", name, p)
			}
			overwrite(whole)
			if !bytes.Equal(second, want) {
				t.Errorf("%s behind %q: the answer shares memory with what was handed in", name, p)
			}
		}
	}
	written := s.Put(nil)
	overwrite(wholeBody)
	if string(written) != "\x02\x04body" {
		t.Errorf("Put kept the body: %q", written)
	}
}

// Rule of memory: two that are Put behind one row stay apart.
func TestTwoBehindOne(t *testing.T) {
	row := span.Span{Class: 1}.Put(nil)
	a, b := span.Span{Class: 2}.Put(row), span.Span{Class: 3}.Put(row)
	if !bytes.Equal(a, []byte{1, 0, 2, 0}) || !bytes.Equal(b, []byte{1, 0, 3, 0}) || !bytes.Equal(row, []byte{1, 0}) {
		t.Errorf("%x, %x behind %x", a, b, row)
	}
}

// Rule of memory: a body that is got is the caller's own.
func TestGetMemory(t *testing.T) {
	row := span.Item{Number: 1, Span: span.Span{Class: 1, Body: []byte("one")}}.Put(nil)
	row = span.Item{Number: 2, Span: span.Span{Class: 2, Body: []byte("two")}}.Put(row)
	before := bytes.Clone(row)
	in, other := pack.Of(row), pack.Of(row)
	first := span.GetItem(in)
	overwrite(first.Body)
	if got := span.GetItem(in); got.Number != 2 || string(got.Body) != "two" || in.End() != api.OK {
		t.Errorf("what is left changed: %v, %d", got, in.Err())
	}
	if !bytes.Equal(row, before) {
		t.Errorf("reading changed the row: %x", row)
	}
	kept := span.GetItem(other)
	overwrite(row)
	if got := span.GetItem(other); string(got.Body) != "two" || string(kept.Body) != "one" {
		t.Errorf("an answer shares memory: %q, %q", kept.Body, got.Body)
	}
}

// Rule of memory: what is only asked stays, its spare room too.
func TestAskedMemory(t *testing.T) {
	row, whole := roomy("body")
	before := bytes.Clone(whole)
	s := span.Span{Class: 1, Body: row}
	s.Right()
	s.Size()
	span.Same(s, s)
	if !bytes.Equal(whole, before) {
		t.Errorf("the body changed: %x", whole)
	}
}

// P1, P2, P4.2: whatever bytes are read, no call panics; what is got is Right and is written the same way again; an error gives nothing; and reading again answers the same.
func TestAnyBytes(t *testing.T) {
	source := rand.New(rand.NewSource(8))
	for range 50000 {
		p := make([]byte, source.Intn(16))
		for i := range p {
			p[i] = []byte{0, 1, 2, 3, 7, 8, 0x7f, 0x80, 0x81, 0xff}[source.Intn(10)]
		}
		in, again := pack.Of(p), pack.Of(p)
		got, twice := span.GetItem(in), span.GetItem(again)
		if !same(got, twice) || in.Err() != again.Err() || in.Left() != again.Left() {
			t.Fatalf("%x: read twice: %v, %v", p, got, twice)
		}
		if in.Err() != api.OK {
			if got.Number != 0 || !zeroSpan(got.Span) {
				t.Fatalf("%x: %v beside error %d", p, got, in.Err())
			}
			continue
		}
		if read := p[:len(p)-in.Left()]; !got.Right() || !bytes.Equal(got.Put(nil), read) {
			t.Fatalf("%x was read as %v", read, got)
		}
	}
}
