package frame_test

import (
	"bytes"
	"encoding/binary"
	"math"
	"math/rand"
	"slices"
	"testing"

	"sumpter/api"
	"sumpter/frame"
	"sumpter/mark"
	"sumpter/runs"
	"sumpter/span"
)

const most = math.MaxUint64

// item answers an item of that number, class and body.
func item(number uint64, class int, body string) span.Item {
	return span.Item{Number: number, Span: span.Span{Class: class, Body: []byte(body)}}
}

// row answers that many items of no bytes, with numbers rising from first on.
func row(first uint64, many int) []span.Item {
	var out []span.Item
	for i := range many {
		out = append(out, item(first+uint64(i), 0, ""))
	}
	return out
}

// apart answers that many runs of a set, rising from first on.
func apart(first uint64, many int) []runs.Run {
	var out []runs.Run
	for i := range many {
		from := first + 3*uint64(i)
		out = append(out, runs.Run{From: from, To: from + 1})
	}
	return out
}

// between answers runs with their From and To one behind the other.
func between(l ...uint64) []runs.Run {
	var out []runs.Run
	for i := 0; i < len(l); i += 2 {
		out = append(out, runs.Run{From: l[i], To: l[i+1]})
	}
	return out
}

// hello, answer and batch are frames that are Right; a test changes what it is about.
func hello() frame.Frame {
	return frame.Frame{Kind: frame.Hello, Agent: 1, Epoch: 2, Base: 3}
}

func answer(kind byte) frame.Frame {
	return frame.Frame{Kind: kind, Agent: 3, Epoch: 300, Incarnation: 4, Cum: 5, Limit: 20, Runs: between(7, 8, 10, 10)}
}

func batch() frame.Frame {
	return frame.Frame{Kind: frame.Batch, Agent: 2, Epoch: 1, Incarnation: 9, Base: 2, Items: []span.Item{item(2, 1, "x"), item(5, 7, "")}}
}

// each answers a Right frame of each kind.
func each() []frame.Frame {
	return []frame.Frame{hello(), answer(frame.Welcome), batch(), answer(frame.Ack)}
}

// changed answers f behind the change.
func changed(f frame.Frame, change func(f *frame.Frame)) frame.Frame {
	change(&f)
	return f
}

// rightOnes are frames that are Right, at the edges of all that they have.
func rightOnes() []frame.Frame {
	out := append(each(),
		frame.Frame{Kind: frame.Hello, Epoch: 1, Base: 1},
		frame.Frame{Kind: frame.Hello, Agent: api.MaxAgents - 1, Epoch: most, Base: most},
		frame.Frame{Kind: frame.Batch, Epoch: 1, Base: 1},
		frame.Frame{Kind: frame.Batch, Epoch: 1, Base: 1, Items: []span.Item{}, Runs: []runs.Run{}},
		frame.Frame{Kind: frame.Batch, Epoch: 1, Base: most, Items: row(most, 1)},
		frame.Frame{Kind: frame.Batch, Epoch: 1, Incarnation: most, Base: most - 1, Items: row(most-1, 2)},
		frame.Frame{Kind: frame.Batch, Epoch: 1, Base: 1, Items: row(1, api.MaxItems)},
		frame.Frame{Kind: frame.Batch, Epoch: 1, Base: 1, Items: []span.Item{item(2, api.MaxClasses-1, string(make([]byte, api.MaxBody))), item(most, 0, "")}},
	)
	for _, kind := range []byte{frame.Welcome, frame.Ack} {
		for _, f := range []frame.Frame{
			{},
			{Incarnation: most},
			{Runs: []runs.Run{}, Items: []span.Item{}},
			{Limit: 2, Runs: between(2, 2)},
			{Cum: 5, Limit: 5},
			{Cum: 5, Limit: 7, Runs: between(7, 7)},
			{Cum: 5, Limit: 9, Runs: between(7, 7, 9, 9)},
			{Limit: most, Runs: between(2, most)},
			{Limit: most, Runs: between(most, most)},
			{Cum: most - 2, Limit: most, Runs: between(most, most)},
			{Cum: most - 2, Limit: most},
			{Cum: most - 1, Limit: most - 1},
			{Cum: most - 1, Limit: most},
			{Cum: most, Limit: most},
			{Cum: 1, Limit: 3 * api.MaxRuns, Runs: apart(3, api.MaxRuns-1)},
			{Cum: 1, Limit: 4 + 3*(api.MaxRuns-1), Runs: apart(3, api.MaxRuns)},
		} {
			f.Kind, f.Epoch = kind, 1
			out = append(out, f)
		}
	}
	return out
}

// headless are frames that aren't Right by their kind, agent or epoch.
func headless() []frame.Frame {
	var out []frame.Frame
	for _, f := range each() {
		for _, agent := range []int{-1, api.MaxAgents, api.MaxAgents + 1, 256, math.MinInt, math.MaxInt} {
			out = append(out, changed(f, func(f *frame.Frame) { f.Agent = agent }))
		}
		for _, kind := range []byte{0, 5, 6, 128, 255} {
			out = append(out, changed(f, func(f *frame.Frame) { f.Kind = kind }))
		}
		out = append(out, changed(f, func(f *frame.Frame) { f.Epoch = 0 }))
	}
	return append(out, frame.Frame{})
}

// untold are frames that have a part that their kind isn't told with.
func untold() []frame.Frame {
	var out []frame.Frame
	for i, f := range each() {
		for j, change := range []func(f *frame.Frame){
			func(f *frame.Frame) { f.Incarnation = 1 },
			func(f *frame.Frame) { f.Base = 1 },
			func(f *frame.Frame) { f.Items = row(7, 1) },
			func(f *frame.Frame) { f.Limit = 30 },
			func(f *frame.Frame) { f.Cum, f.Limit = 1, 30 },
			func(f *frame.Frame) { f.Limit, f.Runs = 30, between(12, 13) },
			func(f *frame.Frame) { f.Cum = 1 },
			func(f *frame.Frame) { f.Runs = between(12, 13) },
		} {
			told := map[int][]int{0: {1}, 1: {0, 3, 4, 5, 6, 7}, 2: {0, 1, 2}, 3: {0, 3, 4, 5, 6, 7}}
			if !slices.Contains(told[i], j) {
				out = append(out, changed(f, change))
			}
		}
	}
	return out
}

// wrongItems are Batches, and a Hello, whose Base, or whose items, can't be.
func wrongItems() []frame.Frame {
	out := []frame.Frame{changed(hello(), func(f *frame.Frame) { f.Base = 0 })}
	for _, x := range []struct {
		base  uint64
		items []span.Item
	}{
		{0, nil},
		{0, row(1, 1)},
		{0, row(0, 1)},
		{3, row(2, 1)},
		{3, row(2, 2)},
		{most, row(most-1, 1)},
		{2, []span.Item{item(5, 0, ""), item(2, 0, "")}},
		{2, []span.Item{item(2, 0, ""), item(2, 0, "")}},
		{2, []span.Item{item(2, 0, ""), item(4, 0, ""), item(4, 0, "x")}},
		{2, []span.Item{item(2, 0, ""), item(9, 0, ""), item(8, 0, "")}},
		{2, []span.Item{item(most, 0, ""), item(0, 0, "")}},
		{2, []span.Item{item(3, 0, ""), item(4, 0, ""), item(1, 0, "")}},
		{2, []span.Item{item(2, api.MaxClasses, "")}},
		{2, []span.Item{item(2, -1, "")}},
		{2, []span.Item{item(2, 256, "")}},
		{2, []span.Item{item(2, 0, ""), item(3, api.MaxClasses, "")}},
		{2, []span.Item{item(2, 0, string(make([]byte, api.MaxBody+1)))}},
		{2, []span.Item{item(2, 0, ""), item(3, 0, string(make([]byte, api.MaxBody+1))), item(4, 0, "")}},
		{1, row(1, api.MaxItems+1)},
		{1, row(1, 1000)},
	} {
		out = append(out, changed(batch(), func(f *frame.Frame) { f.Base, f.Items = x.base, x.items }))
	}
	return out
}

// wrongAnswers are Welcomes and Acks whose Cum, Limit and Runs can't be.
func wrongAnswers() []frame.Frame {
	var out []frame.Frame
	for _, x := range []struct {
		cum, limit uint64
		l          []runs.Run
	}{
		// Limit less than Cum.
		{5, 4, nil},
		{most, most - 1, nil},
		{1, 0, nil},
		{5, 4, between(7, 8)},
		// The first From less than Cum and 2, than Cum, than 2.
		{5, 20, between(6, 8)},
		{5, 20, between(5, 8)},
		{5, 20, between(4, 4)},
		{5, 20, between(0, 0, 9, 9)},
		{0, 20, between(1, 1)},
		{0, 20, between(0, 0)},
		{0, 20, between(1, 2, 9, 9)},
		// A Cum of which there are none.
		{most - 2, most, between(most-1, most)},
		{most - 1, most, between(most, most)},
		{most - 1, most, between(0, 0)},
		{most - 1, most, between(2, 3)},
		{most, most, between(most, most)},
		{most, most, between(0, 1)},
		{most, most, between(1, 1)},
		{most, most, between(2, 2)},
		// The last To above Limit.
		{5, 7, between(7, 8)},
		{5, 20, between(7, 8, 20, 21)},
		{5, 6, between(7, 7)},
		{5, most - 1, between(7, most)},
		// Runs that no set has.
		{0, 20, between(8, 7)},
		{0, 20, between(5, 5, 6, 6)},
		{0, 20, between(5, 6, 6, 7)},
		{0, 20, between(9, 9, 5, 5)},
		{0, 20, between(5, 5, 5, 5)},
		{0, 20, between(3, 9, 5, 6)},
		{0, most, between(5, most, 7, 7)},
		{0, most, between(5, most, 2, 2)},
		// Too many.
		{0, 1000, apart(2, api.MaxRuns+1)},
		{0, 10000, apart(2, 1000)},
	} {
		for _, kind := range []byte{frame.Welcome, frame.Ack} {
			out = append(out, changed(answer(kind), func(f *frame.Frame) { f.Cum, f.Limit, f.Runs = x.cum, x.limit, x.l }))
		}
	}
	return out
}

// wrongOnes are frames that aren't Right.
func wrongOnes() []frame.Frame {
	return slices.Concat(headless(), untold(), wrongItems(), wrongAnswers())
}

// written answers how a frame's bytes must be, unclosed, without a look at whether it is Right: worked out a second way.
func written(f frame.Frame) []byte {
	l := []uint64{uint64(f.Agent), f.Epoch}
	switch f.Kind {
	case frame.Hello:
		l = append(l, f.Base)
	case frame.Welcome, frame.Ack:
		l = append(l, f.Incarnation, f.Cum, f.Limit, uint64(len(f.Runs)))
		for _, r := range f.Runs {
			l = append(l, r.From, r.To)
		}
	case frame.Batch:
		l = append(l, f.Incarnation, f.Base, uint64(len(f.Items)))
	}
	p := []byte{f.Kind}
	for _, n := range l {
		p = binary.AppendUvarint(p, n)
	}
	for _, i := range f.Items {
		p = append(binary.AppendUvarint(p, i.Number), byte(i.Class))
		p = append(binary.AppendUvarint(p, uint64(len(i.Body))), i.Body...)
	}
	return p
}

// zero tells whether f is a zero Frame.
func zero(f frame.Frame) bool {
	return f.Kind == 0 && f.Agent == 0 && f.Epoch == 0 && f.Incarnation == 0 && f.Base == 0 && f.Cum == 0 && f.Limit == 0 && f.Runs == nil && f.Items == nil
}

// P5.1: the kinds' numbers and names; of another one nothing.
func TestKinds(t *testing.T) {
	if frame.Hello != 1 || frame.Welcome != 2 || frame.Batch != 3 || frame.Ack != 4 {
		t.Error("a kind has another number")
	}
	names := map[byte]string{1: "hello", 2: "welcome", 3: "batch", 4: "ack"}
	for kind := range 256 {
		if got := frame.Name(byte(kind)); got != names[byte(kind)] {
			t.Errorf("Name(%d) = %q", kind, got)
		}
	}
}

// P5.1: frames that may be.
func TestRight(t *testing.T) {
	for _, f := range rightOnes() {
		if !f.Right() {
			t.Errorf("isn't Right: %.300v", f)
		}
	}
	for agent := range api.MaxAgents {
		for _, f := range each() {
			f.Agent = agent
			if !f.Right() {
				t.Errorf("isn't Right: %v", f)
			}
		}
	}
}

// P5.1: frames that may not be, each by one thing alone or by several; P5.2: they aren't Encoded.
func TestNotRight(t *testing.T) {
	for _, f := range wrongOnes() {
		if f.Right() {
			t.Errorf("is Right: %.300v", f)
		}
		if p, e := f.Encode(); p != nil || e != api.ErrArg {
			t.Errorf("Encode is %x, %d: %.300v", p, e, f)
		}
	}
}

// P5.2: the bytes, by hand.
func TestEncode(t *testing.T) {
	for _, x := range []struct {
		f    frame.Frame
		want string
	}{
		{hello(), "\x01\x01\x02\x03"},
		{frame.Frame{Kind: frame.Hello, Agent: 15, Epoch: 300, Base: 128}, "\x01\x0f\xac\x02\x80\x01"},
		{answer(frame.Welcome), "\x02\x03\xac\x02\x04\x05\x14\x02\x07\x08\x0a\x0a"},
		{answer(frame.Ack), "\x04\x03\xac\x02\x04\x05\x14\x02\x07\x08\x0a\x0a"},
		{frame.Frame{Kind: frame.Ack, Epoch: 1}, "\x04\x00\x01\x00\x00\x00\x00"},
		{frame.Frame{Kind: frame.Welcome, Epoch: 1, Incarnation: 300, Cum: most, Limit: most},
			"\x02\x00\x01\xac\x02\xff\xff\xff\xff\xff\xff\xff\xff\xff\x01\xff\xff\xff\xff\xff\xff\xff\xff\xff\x01\x00"},
		{batch(), "\x03\x02\x01\x09\x02\x02\x02\x01\x01x\x05\x07\x00"},
		{frame.Frame{Kind: frame.Batch, Epoch: 1, Base: 200}, "\x03\x00\x01\x00\xc8\x01\x00"},
	} {
		if p, e := x.f.Encode(); e != api.OK || !bytes.Equal(p, mark.Close([]byte(x.want))) {
			t.Errorf("%v: %x, %d; want %x and its sum", x.f, p, e, x.want)
		}
	}
	p, _ := hello().Encode()
	if sum := binary.LittleEndian.Uint32(p[4:]); len(p) != 8 || sum != mark.Sum([]byte{1, 1, 2, 3}) {
		t.Errorf("a Hello has %d bytes, its sum is %x", len(p), sum)
	}
}

// P5.2, P5.3: each frame that may be is written as its parts say, and read back.
func TestBack(t *testing.T) {
	for _, f := range rightOnes() {
		p, e := f.Encode()
		if want := mark.Close(written(f)); e != api.OK || !bytes.Equal(p, want) {
			t.Errorf("Encode is %x, %d; want %x: %.300v", p, e, want, f)
		}
		got, e := frame.Decode(p)
		if e != api.OK || !frame.Same(got, f) || !got.Right() {
			t.Errorf("decoded %.300v, %d: %.300v", got, e, f)
		}
		if again, e := got.Encode(); e != api.OK || !bytes.Equal(again, p) {
			t.Errorf("encoded again %x, %d; was %x", again, e, p)
		}
	}
}

// long answers a Batch that has that many bytes when it is Encoded; size is from 61501 to 65616.
func long(t *testing.T, size int) frame.Frame {
	t.Helper()
	f := frame.Frame{Kind: frame.Batch, Epoch: 1, Base: 1}
	for n := range 16 {
		f.Items = append(f.Items, item(uint64(n+1), 1, string(make([]byte, api.MaxBody))))
	}
	last := &f.Items[15]
	last.Body = last.Body[:api.MaxBody-(len(written(f))+4-size)]
	if got := len(written(f)) + 4; got != size {
		t.Fatalf("made %d bytes, not %d", got, size)
	}
	return f
}

// P5.2, P5.3: api.MaxFrame bytes are Encoded, and Decoded; one more isn't.
func TestLong(t *testing.T) {
	for _, size := range []int{api.MaxFrame - 1, api.MaxFrame} {
		f := long(t, size)
		p, e := f.Encode()
		if e != api.OK || len(p) != size || !bytes.Equal(p, mark.Close(written(f))) {
			t.Errorf("%d bytes: %d, %d", size, len(p), e)
		}
		if got, e := frame.Decode(p); e != api.OK || !frame.Same(got, f) {
			t.Errorf("%d bytes: decoded %d", size, e)
		}
	}
	for _, size := range []int{api.MaxFrame + 1, api.MaxFrame + 2, api.MaxFrame + 4, api.MaxFrame + 5} {
		f := long(t, size)
		if !f.Right() {
			t.Errorf("%d bytes: isn't Right", size)
		}
		if p, e := f.Encode(); e != api.ErrLong || p != nil {
			t.Errorf("%d bytes: %d, %d", size, len(p), e)
		}
		if got, e := frame.Decode(mark.Close(written(f))); e != api.ErrLong || !zero(got) {
			t.Errorf("%d bytes: decoded %d", size, e)
		}
	}
	most := frame.Frame{Kind: frame.Batch, Epoch: 1, Base: 1, Items: row(1, api.MaxItems)}
	for i := range most.Items {
		most.Items[i].Body = make([]byte, api.MaxBody)
	}
	if p, e := most.Encode(); e != api.ErrLong || p != nil {
		t.Errorf("as much as can be: %d, %d", len(p), e)
	}
	// Both errors hold: that it isn't Right goes ahead.
	most.Items[63].Class = api.MaxClasses
	if p, e := most.Encode(); e != api.ErrArg || p != nil {
		t.Errorf("too long, and not Right: %d, %d", len(p), e)
	}
}

// fails looks whether p isn't Decoded, for that reason.
func fails(t *testing.T, what string, p []byte, want api.Errno) {
	t.Helper()
	if f, e := frame.Decode(p); e != want || !zero(f) {
		t.Errorf("%s: Decode of %.40x is %.300v, %d; want error %d", what, p, f, e, want)
	}
}

// P5.3: so many bytes go ahead of the sum, and the sum of all that they say.
func TestDecodeClosed(t *testing.T) {
	fails(t, "nil", nil, api.ErrForm)
	for size := range 4 {
		fails(t, "too few bytes for a sum", make([]byte, size), api.ErrForm)
	}
	fails(t, "no byte, closed", mark.Close(nil), api.ErrForm)
	fails(t, "not closed", []byte{1, 1, 2, 3}, api.ErrSum)
	fails(t, "not closed", []byte{5, 0, 0, 0, 0}, api.ErrSum)
	fails(t, "as many as may be, not closed", bytes.Repeat([]byte{7}, api.MaxFrame), api.ErrSum)
	fails(t, "more than may be, not closed", bytes.Repeat([]byte{7}, api.MaxFrame+1), api.ErrLong)
	fails(t, "as many as may be, no frame", mark.Close(make([]byte, api.MaxFrame-4)), api.ErrForm)
	fails(t, "more than may be, no frame", mark.Close(make([]byte, api.MaxFrame-3)), api.ErrLong)
	fails(t, "far more than may be", make([]byte, 1<<20), api.ErrLong)
}

// over is a number of more than 64 bits; huge is the greatest one; slack is one in more bytes than it needs.
const (
	over  = "\xff\xff\xff\xff\xff\xff\xff\xff\xff\x02"
	huge  = "\xff\xff\xff\xff\xff\xff\xff\xff\xff\x01"
	slack = "\x81\x00"
)

// P5.3: of what is closed the first part that has an error tells it.
func TestDecodeParts(t *testing.T) {
	for _, x := range []struct {
		p    string
		want api.Errno
	}{
		// A kind that there isn't, whatever is behind it.
		{"\x00\x00\x01\x01", api.ErrForm},
		{"\x05\x00\x01\x01", api.ErrForm},
		{"\xff\x00\x01\x01", api.ErrForm},
		{"\x05", api.ErrForm},
		{"\x05" + over, api.ErrForm},
		{"\x00" + over + over + over, api.ErrForm},
		// The agent, whatever is behind it.
		{"\x01" + over + "\x01\x01", api.ErrOver},
		{"\x01" + slack + "\x01\x01", api.ErrForm},
		{"\x01\x10\x01\x01", api.ErrForm},
		{"\x01\x10" + over, api.ErrForm},
		{"\x02\x10" + over, api.ErrForm},
		{"\x03\x10" + over, api.ErrForm},
		{"\x04\xff\x01" + over, api.ErrForm},
		{"\x01" + huge + over, api.ErrForm},
		{"\x01\x90\x80\x80\x80\x10\x01\x01", api.ErrForm}, // 2^32 and 16: by its lowest bits it could be one
		{"\x01\x80\x80\x80\x80\x10\x01\x01", api.ErrForm}, // 2^32: by its lowest bits it would be one
		{"\x01" + over + "\x00", api.ErrOver},
		// The epoch.
		{"\x01\x00" + over + slack, api.ErrOver},
		{"\x01\x00" + slack + over, api.ErrForm},
		{"\x03\x00" + over + "\x00\x01\xff\x7f", api.ErrOver},
		// A Hello's base, and bytes that are left, ahead of not being Right.
		{"\x01\x00\x01" + over, api.ErrOver},
		{"\x01\x00\x01" + slack, api.ErrForm},
		{"\x01\x00\x00" + over, api.ErrOver},
		{"\x01\x00\x01\x01\x00", api.ErrForm},
		{"\x01\x00\x00\x00\x00", api.ErrForm},
		{"\x01\x00\x01\x01" + over, api.ErrForm},
		{"\x01\x00\x00\x01", api.ErrArg},
		{"\x01\x00\x01\x00", api.ErrArg},
		// A Welcome's and an Ack's parts, one behind the other.
		{"\x02\x00\x01" + over + slack, api.ErrOver},
		{"\x02\x00\x01\x01" + over + slack, api.ErrOver},
		{"\x02\x00\x01\x01\x05" + slack + over, api.ErrForm},
		{"\x04\x00\x01\x01\x05" + over + slack, api.ErrOver},
		{"\x04\x00\x01\x01\x05\x14" + over, api.ErrOver},
		{"\x04\x00\x01\x01\x05\x14" + slack, api.ErrForm},
		{"\x04\x00\x01\x01\x05\x14\x21" + over, api.ErrForm},
		{"\x04\x00\x01\x01\x05\x14" + huge + over, api.ErrForm},
		{"\x04\x00\x01\x01\x05\x14\x20" + over, api.ErrOver},
		{"\x04\x00\x01\x01\x05\x14\x20\x07" + over, api.ErrOver},
		{"\x04\x00\x01\x01\x05\x14\x01\x07" + slack, api.ErrForm},
		{"\x04\x00\x01\x01\x05\x14\x02\x07\x08", api.ErrForm},
		{"\x04\x00\x01\x01\x05\x14\x01\x07\x08\x00", api.ErrForm},
		{"\x04\x00\x01\x01\x05\x04\x01\x07\x08\x00", api.ErrForm},
		{"\x04\x00\x01\x01\x05\x04\x01\x07" + over, api.ErrOver},
		{"\x02\x00\x01\x01\x05\x14\x01\x06\x08", api.ErrArg},
		{"\x04\x00\x01\x01\x05\x04\x00", api.ErrArg},
		// A Batch's parts, one behind the other.
		{"\x03\x00\x01" + over + slack, api.ErrOver},
		{"\x03\x00\x01\x00" + over + slack, api.ErrOver},
		{"\x03\x00\x01\x00\x02" + over, api.ErrOver},
		{"\x03\x00\x01\x00\x02" + slack, api.ErrForm},
		{"\x03\x00\x01\x00\x02\x41" + over, api.ErrForm},
		{"\x03\x00\x01\x00\x02" + huge + over, api.ErrForm},
		{"\x03\x00\x01\x00\x02\x40" + over, api.ErrOver},
		{"\x03\x00\x01\x00\x02\x01\x02\x08" + over, api.ErrForm},
		{"\x03\x00\x01\x00\x02\x01\x02\x07" + over, api.ErrOver},
		{"\x03\x00\x01\x00\x02\x01\x02\x07\x81\x20", api.ErrLong},
		{"\x03\x00\x01\x00\x02\x01\x02\x07\x80\x20", api.ErrForm},
		{"\x03\x00\x01\x00\x02\x02\x02\x07\x81\x20" + over, api.ErrLong},
		{"\x03\x00\x01\x00\x02\x02\x01\x00\x00", api.ErrForm},
		{"\x03\x00\x01\x00\x02\x02\x01\x00\x00" + over, api.ErrOver},
		{"\x03\x00\x01\x00\x00\x01\x01\x00\x00\x00", api.ErrForm},
		{"\x03\x00\x01\x00\x02\x01\x01\x00\x00", api.ErrArg},
		{"\x03\x00\x01\x00\x00\x00", api.ErrArg},
		// A body of more than may be goes ahead of bytes that are left, and of not being Right.
		{"\x03\x00\x00\x00\x00\x01\x02\x07\x81\x20" + string(make([]byte, api.MaxBody+2)), api.ErrLong},
	} {
		fails(t, "parts", mark.Close([]byte(x.p)), x.want)
	}
}

// P5.3: more Runs, or Items, than may be are an error where they are told, though all of them are there.
func TestDecodeTooMany(t *testing.T) {
	for _, kind := range []byte{frame.Welcome, frame.Ack} {
		f := frame.Frame{Kind: kind, Epoch: 1, Limit: 1000, Runs: apart(2, api.MaxRuns+1)}
		fails(t, "Runs", mark.Close(written(f)), api.ErrForm)
	}
	f := frame.Frame{Kind: frame.Batch, Epoch: 1, Base: 1, Items: row(1, api.MaxItems+1)}
	fails(t, "Items", mark.Close(written(f)), api.ErrForm)
}

// P5.3: what is written as it must be, and isn't Right, is ErrArg, if its parts can be read.
func TestDecodeNotRight(t *testing.T) {
	asked := 0
	for _, f := range slices.Concat(wrongItems(), wrongAnswers()) {
		if len(f.Runs) > api.MaxRuns || len(f.Items) > api.MaxItems || slices.ContainsFunc(f.Items, func(i span.Item) bool { return !i.Right() }) {
			continue
		}
		asked++
		fails(t, "not Right", mark.Close(written(f)), api.ErrArg)
	}
	for _, f := range each() {
		f.Epoch = 0
		fails(t, "epoch 0", mark.Close(written(f)), api.ErrArg)
	}
	if asked < 60 {
		t.Errorf("only %d frames were asked", asked)
	}
}

// P5.3: a frame that isn't all there, and one with a byte behind it, are ErrForm, though their sum is right.
func TestDecodeCut(t *testing.T) {
	for _, f := range rightOnes() {
		p := written(f)
		step := max(1, len(p)/50)
		for size := 0; size < len(p); size += step {
			fails(t, "cut", mark.Close(p[:size]), api.ErrForm)
		}
		for _, b := range []byte{0, 1, 0xff} {
			fails(t, "a byte is left", mark.Close(append(bytes.Clone(p), b)), api.ErrForm)
		}
	}
}

// P5.3: a byte that was turned is seen wherever it is.
func TestDecodeTurned(t *testing.T) {
	for _, f := range each() {
		p, _ := f.Encode()
		for at := range p {
			for by := 1; by < 256; by++ {
				turned := bytes.Clone(p)
				turned[at] ^= byte(by)
				fails(t, "turned", turned, api.ErrSum)
			}
		}
	}
}

// P5.3: Same goes by all that a frame has, of those that aren't Right too.
func TestSame(t *testing.T) {
	l := []frame.Frame{
		{}, {Kind: 1}, {Kind: 9}, {Agent: 1}, {Agent: -1}, {Epoch: 1}, {Incarnation: 1}, {Base: 1}, {Cum: 1}, {Limit: 1},
		{Runs: between(0, 0)}, {Runs: between(0, 1)}, {Runs: between(1, 0)}, {Runs: between(0, 0, 0, 0)}, {Runs: between(0, 1, 5, 5)}, {Runs: between(5, 5, 0, 1)},
		{Items: row(0, 1)}, {Items: row(1, 1)}, {Items: row(0, 2)}, {Items: []span.Item{item(0, 1, "")}}, {Items: []span.Item{item(0, 0, "x")}},
		{Items: []span.Item{item(0, 0, "y")}}, {Items: []span.Item{item(0, 0, "y"), item(0, 0, "")}}, {Items: []span.Item{item(0, 0, ""), item(0, 0, "y")}},
		{Items: row(0, 1), Runs: between(0, 0)},
	}
	for i, a := range l {
		for j, b := range l {
			b.Runs = slices.Clone(b.Runs)
			b.Items = slices.Clone(b.Items)
			if frame.Same(a, b) != (i == j) {
				t.Errorf("Same of %v and %v is %v", a, b, i != j)
			}
		}
	}
	full, none := frame.Frame{Runs: []runs.Run{}, Items: []span.Item{}}, frame.Frame{}
	if !frame.Same(full, none) || !frame.Same(none, full) {
		t.Error("empty lists and none aren't the same")
	}
	full, none = frame.Frame{Items: []span.Item{{Span: span.Span{Body: []byte{}}}}}, frame.Frame{Items: []span.Item{{}}}
	if !frame.Same(full, none) || !frame.Same(none, full) {
		t.Error("an empty body and none aren't the same")
	}
}

// overwrite writes over all of p's memory.
func overwrite(p []byte) {
	p = p[:cap(p)]
	for i := range p {
		p[i] = 0x55
	}
}

// roomy answers a frame whose lists and bodies have spare room, what asks whether all of it, and that room, is as it was, and what writes over all of it.
func roomy(f frame.Frame) (frame.Frame, func() bool, func()) {
	items := append(slices.Clone(f.Items), item(77, 7, "spare"), item(78, 6, "room"))
	for i := range items {
		items[i].Body = append(slices.Clone(items[i].Body), "spare"...)[:len(items[i].Body)]
	}
	list := append(slices.Clone(f.Runs), between(99, 99, 98, 98)...)
	f.Items, f.Runs = items[:len(f.Items)], list[:len(f.Runs)]

	look := func() (string, []runs.Run) {
		all := ""
		for _, i := range items {
			all += string(binary.AppendUvarint(nil, i.Number)) + string(rune(i.Class)) + string(rune(len(i.Body))) + string(i.Body[:cap(i.Body)])
		}
		return all, slices.Clone(list)
	}
	all, listed := look()
	stays := func() bool {
		nowAll, nowListed := look()
		return nowAll == all && slices.Equal(nowListed, listed)
	}
	return f, stays, func() {
		for i := range items {
			overwrite(items[i].Body)
			items[i] = item(55, 5, "over")
		}
		for i := range list {
			list[i] = runs.Run{From: 55, To: 44}
		}
	}
}

// Rule of memory: what a frame is asked of stays, its spare room too; its bytes are new.
func TestEncodeMemory(t *testing.T) {
	for _, x := range append(each(), frame.Frame{Kind: frame.Batch, Items: row(5, 2)}, frame.Frame{Kind: 9, Runs: between(5, 1)}) {
		f, stays, destroy := roomy(x)
		f.Right()
		frame.Same(f, f)
		first, e := f.Encode()
		second, _ := f.Encode()
		if !stays() {
			t.Errorf("the frame changed: %v", x)
		}
		if e != api.OK {
			continue
		}
		want := mark.Close(written(x))
		overwrite(first)
		if !bytes.Equal(second, want) || !stays() {
			t.Errorf("two answers share memory, or one with the frame: %x, want %x", second, want)
		}
		destroy()
		if !bytes.Equal(second, want) {
			t.Errorf("the answer shares memory with the frame: %x, want %x", second, want)
		}
	}
}

// Rule of memory: what is decoded stays, its spare room too, and the frame is new, each body and each list by itself.
func TestDecodeMemory(t *testing.T) {
	full := batch()
	full.Items = append(full.Items, item(6, 0, "six"), item(7, 0, "seven"), item(9, 0, "nine"))
	for _, x := range append(each(), full) {
		p, _ := x.Encode()
		whole := append(bytes.Clone(p), bytes.Repeat([]byte{0xee}, 64)...)
		before := bytes.Clone(whole)
		first, e := frame.Decode(whole[:len(p)])
		second, _ := frame.Decode(whole[:len(p)])
		if e != api.OK || !bytes.Equal(whole, before) {
			t.Fatalf("decoding changed the bytes, or has error %d", e)
		}
		for i := range first.Items {
			overwrite(first.Items[i].Body)
			for j := i + 1; j < len(first.Items); j++ {
				if !span.Same(first.Items[j].Span, x.Items[j].Span) {
					t.Errorf("two bodies of one frame share memory: %v", first)
				}
			}
			first.Items[i] = item(55, 5, "over")
		}
		for i := range first.Runs {
			first.Runs[i] = runs.Run{From: 55, To: 44}
		}
		if !frame.Same(second, x) || !bytes.Equal(whole, before) {
			t.Errorf("two frames share memory, or one with the bytes: %v", second)
		}
		overwrite(whole)
		if !frame.Same(second, x) {
			t.Errorf("the frame shares memory with the bytes: %v", second)
		}
	}
}

// random answers a frame of any kind with parts that are often at an edge, and often right.
func random(source *rand.Rand) frame.Frame {
	number := func() uint64 {
		return []uint64{0, 1, 2, 3, 4, 5, 6, 7, 9, 12, 300, most - 2, most - 1, most}[source.Intn(14)]
	}
	f := frame.Frame{Kind: byte(source.Intn(6)), Agent: source.Intn(19) - 1, Epoch: number()}
	if f.Kind == frame.Welcome || f.Kind == frame.Ack {
		f.Incarnation, f.Cum, f.Limit = number(), number(), number()
		for range source.Intn(4) {
			f.Runs = append(f.Runs, runs.Run{From: number(), To: number()})
		}
		return f
	}
	f.Base = number()
	if f.Kind == frame.Batch {
		f.Incarnation = number()
		for range source.Intn(4) {
			f.Items = append(f.Items, item(number(), source.Intn(10)-1, "body"[:source.Intn(5)]))
		}
	}
	return f
}

// may tells whether a random frame may be: worked out a second way, number by number where the runs are short.
func may(f frame.Frame) bool {
	if f.Kind < 1 || f.Kind > 4 || f.Agent < 0 || f.Agent > 15 || f.Epoch == 0 {
		return false
	}
	if f.Kind == frame.Hello {
		return f.Base > 0
	}
	if f.Kind == frame.Batch {
		numbers := []uint64{}
		for _, i := range f.Items {
			numbers = append(numbers, i.Number)
			if i.Class < 0 || i.Class > 7 {
				return false
			}
		}
		return f.Base > 0 && slices.IsSorted(numbers) && len(slices.Compact(slices.Clone(numbers))) == len(numbers) && (len(numbers) == 0 || slices.Min(numbers) >= f.Base)
	}
	set := runs.Set{}
	for _, r := range f.Runs {
		if r.From > r.To {
			return false
		}
		set = set.Span(r.From, r.To)
	}
	if !slices.Equal(set.Runs(), f.Runs) || f.Limit < f.Cum {
		return false
	}
	// Up to Cum all have come and the one above it hasn't, so that none of these is in a run; nor is who is above Limit.
	outside := runs.Set{}.Span(0, f.Cum)
	if f.Cum < most {
		outside = outside.Add(f.Cum + 1)
	}
	if f.Limit < most {
		outside = outside.Span(f.Limit+1, most)
	}
	return runs.Same(set.Less(outside), set)
}

// P5.1, P5.2, P5.3, P2: of whatever frames Right, Encode and Decode are of one mind, and of the same one when asked again.
func TestRandomFrames(t *testing.T) {
	source := rand.New(rand.NewSource(5))
	right := 0
	for range 100000 {
		f := random(source)
		if f.Right() != may(f) || f.Right() != may(f) {
			t.Fatalf("Right is %v: %v", f.Right(), f)
		}
		p, e := f.Encode()
		again, e2 := f.Encode()
		if e != e2 || !bytes.Equal(p, again) {
			t.Fatalf("encoded twice: %x, %d and %x, %d: %v", p, e, again, e2, f)
		}
		if !may(f) {
			if e != api.ErrArg || p != nil {
				t.Fatalf("Encode is %x, %d: %v", p, e, f)
			}
			continue
		}
		right++
		if e != api.OK || !bytes.Equal(p, mark.Close(written(f))) {
			t.Fatalf("Encode is %x, %d: %v", p, e, f)
		}
		if got, e := frame.Decode(p); e != api.OK || !frame.Same(got, f) {
			t.Fatalf("decoded %v, %d: %v", got, e, f)
		}
	}
	if right < 5000 {
		t.Errorf("only %d frames were Right", right)
	}
}

// P1, P2, P5.3: whatever bytes are decoded, no call panics; an error gives nothing; what is decoded is Right, and encoded again it is what it was; and asked again the answer is the same.
func TestAnyBytes(t *testing.T) {
	source := rand.New(rand.NewSource(9))
	decoded := 0
	for range 200000 {
		p := make([]byte, source.Intn(16))
		for i := range p {
			p[i] = []byte{0, 1, 2, 3, 4, 5, 7, 8, 9, 0x10, 0x40, 0x41, 0x80, 0x81, 0xff}[source.Intn(15)]
		}
		if len(p) > 0 && source.Intn(4) > 0 {
			p[0] = byte(1 + source.Intn(4))
		}
		closed := mark.Close(p)
		f, e := frame.Decode(closed)
		again, e2 := frame.Decode(closed)
		if e != e2 || !frame.Same(f, again) {
			t.Fatalf("%x: decoded twice: %v, %d and %v, %d", p, f, e, again, e2)
		}
		if e != api.OK {
			if !zero(f) {
				t.Fatalf("%x: %v beside error %d", p, f, e)
			}
			continue
		}
		decoded++
		if back, e := f.Encode(); !f.Right() || e != api.OK || !bytes.Equal(back, closed) {
			t.Fatalf("%x was decoded as %v, encoded again: %x, %d", closed, f, back, e)
		}
		frame.Decode(p)
	}
	if decoded < 1000 {
		t.Errorf("only %d were frames", decoded)
	}
}
