package net_test

import (
	"bytes"
	"math"
	"slices"
	"strings"
	"testing"

	"sumpter/api"
	"sumpter/frame"
	"sumpter/net"
	"sumpter/runs"
	"sumpter/span"
)

// encoded answers a frame's bytes.
func encoded(t *testing.T, f frame.Frame) string {
	t.Helper()
	p, e := f.Encode()
	if e != api.OK {
		t.Fatalf("Encode of %v is error %d", f, e)
	}
	return string(p)
}

// hello answers the bytes of a Hello of that epoch.
func hello(t *testing.T, epoch uint64) string {
	t.Helper()
	return encoded(t, frame.Frame{Kind: frame.Hello, Agent: 1, Epoch: epoch, Base: 1})
}

// kinds answers the bytes of frames of each kind.
func kinds(t *testing.T) []string {
	t.Helper()
	item := span.Item{Number: 3, Span: span.Span{Class: 1, Body: []byte("body")}}
	return []string{
		hello(t, 2),
		encoded(t, frame.Frame{Kind: frame.Welcome, Agent: 2, Epoch: 300, Incarnation: 1, Limit: 4}),
		encoded(t, frame.Frame{Kind: frame.Batch, Epoch: 1, Incarnation: 1, Base: 2, Items: []span.Item{item}}),
		encoded(t, frame.Frame{Kind: frame.Ack, Agent: 15, Epoch: 1, Cum: 5, Limit: 9, Runs: []runs.Run{{From: 7, To: 9}}}),
	}
}

// isFrame tells whether these are a frame's bytes.
func isFrame(p string) bool {
	_, e := frame.Decode([]byte(p))
	return e == api.OK
}

// packet answers a packet of a text's bytes.
func packet(to int, text string) net.Packet {
	return net.Packet{To: to, Bytes: []byte(text)}
}

// row answers packets to agents 0, 1 .. of texts.
func row(texts ...string) []net.Packet {
	var l []net.Packet
	for i, text := range texts {
		l = append(l, packet(i, text))
	}
	return l
}

// turned answers a text of which one byte is laid over.
func turned(text string, at int, by byte) string {
	p := []byte(text)
	p[at] ^= by
	return string(p)
}

// same tells whether two packets are alike.
func same(a, b net.Packet) bool {
	return a.To == b.To && bytes.Equal(a.Bytes, b.Bytes)
}

// holds looks whether just these packets are on the wire, and so many were sent.
func holds(t *testing.T, what string, n *net.Net, sent int, want ...net.Packet) {
	t.Helper()
	if got := n.List(); !slices.EqualFunc(got, want, same) || n.Len() != len(want) {
		t.Fatalf("%s: List is %v, Len %d, want %v", what, got, n.Len(), want)
	}
	if got := n.Sent(); got != sent {
		t.Fatalf("%s: Sent is %d, want %d", what, got, sent)
	}
}

// is looks whether a call's error is that.
func is(t *testing.T, what string, got, want api.Errno) {
	t.Helper()
	if got != want {
		t.Fatalf("%s: error %d, want %d", what, got, want)
	}
}

// sent answers a net to which these packets were sent.
func sent(t *testing.T, l ...net.Packet) *net.Net {
	t.Helper()
	n := net.New()
	for _, p := range l {
		is(t, "Send", n.Send(p), api.OK)
	}
	return n
}

// delivers looks whether that packet is delivered from that place.
func delivers(t *testing.T, n *net.Net, i int, want net.Packet) {
	t.Helper()
	if got, e := n.Deliver(i); e != api.OK || !same(got, want) {
		t.Fatalf("Deliver(%d) is %v, error %d, want %v", i, got, e, want)
	}
}

// The example of the chapter.
func TestExample(t *testing.T) {
	n := sent(t, packet(net.Collector, "x"))
	is(t, "Double", n.Double(0), api.OK)
	delivers(t, n, 0, packet(net.Collector, "x"))
	holds(t, "one is left", n, 1, packet(net.Collector, "x"))
}

// P18.1: at first nothing is there, and the collector is -1.
func TestNew(t *testing.T) {
	holds(t, "at first", net.New(), 0)
	if net.Collector != -1 {
		t.Fatal("the collector is another one")
	}
}

// P18.1: packets are in the order in which they were sent, to each agent and to the collector.
func TestSend(t *testing.T) {
	n := net.New()
	var want []net.Packet
	for to := -1; to < api.MaxAgents; to++ {
		p := packet(to, strings.Repeat("x", to+1))
		is(t, "Send", n.Send(p), api.OK)
		want = append(want, p)
		holds(t, "sent", n, len(want), want...)
	}
	// One like another is one more.
	is(t, "Send", n.Send(want[3]), api.OK)
	holds(t, "sent again", n, len(want)+1, append(want, want[3])...)
}

// nobodies are who nothing can be sent to.
var nobodies = []int{-2, api.MaxAgents, math.MinInt, math.MaxInt}

// P18.1: to nobody else, with the error that is told first.
func TestSendArg(t *testing.T) {
	n := sent(t, packet(3, "a"))
	for _, to := range nobodies {
		for _, text := range []string{"", "b", hello(t, 1), strings.Repeat("x", api.MaxFrame+1)} {
			is(t, "Send", n.Send(packet(to, text)), api.ErrArg)
			holds(t, "refused", n, 1, packet(3, "a"))
		}
	}
	is(t, "Replay", n.Replay(1), api.ErrNone)
	// What was refused wasn't sent.
	is(t, "Forge", n.Forge(packet(0, hello(t, 1))), api.ErrTwice)
}

// P18.1: no bytes, and api.MaxFrame ones, can be sent; one more can't.
func TestSendLong(t *testing.T) {
	n := net.New()
	var want []net.Packet
	for _, many := range []int{0, 1, api.MaxFrame - 1, api.MaxFrame} {
		p := packet(net.Collector, strings.Repeat("y", many))
		is(t, "Send", n.Send(p), api.OK)
		want = append(want, p)
	}
	for _, many := range []int{api.MaxFrame + 1, 2 * api.MaxFrame} {
		is(t, "Send", n.Send(packet(net.Collector, strings.Repeat("y", many))), api.ErrLong)
	}
	is(t, "Send", n.Send(net.Packet{}), api.OK)
	holds(t, "sent", n, 5, append(want, net.Packet{})...)
}

// calls are all that ask for a place on the wire; each answers its error.
func calls() map[string]func(n *net.Net, i int) api.Errno {
	return map[string]func(n *net.Net, i int) api.Errno{
		"Deliver": func(n *net.Net, i int) api.Errno {
			p, e := n.Deliver(i)
			if e != api.OK && (p.To != 0 || len(p.Bytes) != 0) {
				return -1
			}
			return e
		},
		"Drop":   (*net.Net).Drop,
		"Double": (*net.Net).Double,
		"Turn":   func(n *net.Net, i int) api.Errno { return n.Turn(i, 0, 1) },
	}
}

// P18.2: there is none below place 0, and none behind the last one; nothing changes then.
func TestPlaces(t *testing.T) {
	for _, l := range [][]net.Packet{nil, row("a"), row("a", "b", "c")} {
		for name, call := range calls() {
			n := sent(t, l...)
			for _, i := range []int{-1, len(l), len(l) + 1, math.MinInt, math.MaxInt} {
				is(t, name, call(n, i), api.ErrNone)
				holds(t, name, n, len(l), l...)
			}
			for i := range l {
				is(t, name, call(sent(t, l...), i), api.OK)
			}
		}
		n := sent(t, l...)
		for _, i := range []int{-1, len(l), len(l) + 1, math.MinInt, math.MaxInt} {
			is(t, "Replay", n.Replay(i), api.ErrNone)
			holds(t, "Replay", n, len(l), l...)
		}
	}
	// What was sent has places of its own: there is a second one, though only one is on the wire; and the other way round.
	n := sent(t, row("a", "b")...)
	is(t, "Drop", n.Drop(0), api.OK)
	is(t, "Replay", n.Replay(1), api.OK)
	is(t, "Double", n.Double(0), api.OK)
	is(t, "Replay", n.Replay(2), api.ErrNone)
	is(t, "Drop", n.Drop(2), api.OK)
	is(t, "Drop", n.Drop(2), api.ErrNone)
}

// P18.2: Deliver and Drop at each place of rows of each length: those behind it move up.
func TestDeliverDrop(t *testing.T) {
	for many := range 9 {
		l := row(strings.Split("abcdefghi", "")[:many]...)
		for i := range l {
			want := slices.Delete(slices.Clone(l), i, i+1)
			n := sent(t, l...)
			delivers(t, n, i, l[i])
			holds(t, "delivered", n, many, want...)
			n = sent(t, l...)
			is(t, "Drop", n.Drop(i), api.OK)
			holds(t, "dropped", n, many, want...)
			// What comes then comes behind all.
			is(t, "Send", n.Send(packet(15, "z")), api.OK)
			holds(t, "sent", n, many+1, append(want, packet(15, "z"))...)
		}
	}
}

// P18.2: all go in order, and turn by turn from the end.
func TestDeliverAll(t *testing.T) {
	l := row("a", "b", "c", "d", "e")
	n := sent(t, l...)
	for i := range l {
		delivers(t, n, 0, l[i])
		holds(t, "in order", n, 5, l[i+1:]...)
	}
	for i := range l {
		is(t, "Replay", n.Replay(i), api.OK)
	}
	for i := 4; i >= 0; i-- {
		delivers(t, n, i, l[i])
		holds(t, "from the end", n, 5, l[:i]...)
	}
	is(t, "Drop", n.Drop(0), api.ErrNone)
}

// P18.2: another one like it is the last one; of one that was turned, as it is then.
func TestDouble(t *testing.T) {
	n := sent(t, row("ab", "cd", "ef")...)
	is(t, "Double", n.Double(1), api.OK)
	holds(t, "doubled", n, 3, packet(0, "ab"), packet(1, "cd"), packet(2, "ef"), packet(1, "cd"))
	is(t, "Turn", n.Turn(1, 0, 3), api.OK)
	holds(t, "turned", n, 3, packet(0, "ab"), packet(1, "`d"), packet(2, "ef"), packet(1, "cd"))
	is(t, "Double", n.Double(1), api.OK)
	is(t, "Double", n.Double(4), api.OK)
	holds(t, "doubled", n, 3, packet(0, "ab"), packet(1, "`d"), packet(2, "ef"), packet(1, "cd"), packet(1, "`d"), packet(1, "`d"))
	is(t, "Turn", n.Turn(4, 1, 255), api.OK)
	holds(t, "turned", n, 3, packet(0, "ab"), packet(1, "`d"), packet(2, "ef"), packet(1, "cd"), packet(1, "`\x9b"), packet(1, "`d"))
}

// P18.2: each byte is turned by itself, at a place that is counted round and round, to and fro.
func TestTurn(t *testing.T) {
	l := row("other", "12345", "")
	for at := -12; at < 13; at++ {
		for _, by := range []byte{0, 1, 128, 255} {
			n := sent(t, l...)
			is(t, "Turn", n.Turn(1, at, by), api.OK)
			holds(t, "turned", n, 3, l[0], packet(1, turned("12345", ((at%5)+5)%5, by)), l[2])
			is(t, "Turn", n.Turn(1, at, by), api.OK)
			holds(t, "turned back", n, 3, l...)
		}
	}
	for at, want := range map[int]int{math.MaxInt: math.MaxInt % 5, math.MinInt: 2, math.MinInt + 1: 3, -5: 0, -1: 4, -4: 1, 5: 0, 1 << 40: 1} {
		n := sent(t, l...)
		is(t, "Turn", n.Turn(1, at, 9), api.OK)
		holds(t, "far away", n, 3, l[0], packet(1, turned("12345", want, 9)), l[2])
	}
}

// P18.2: of no bytes nothing is turned, and of one always that.
func TestTurnFew(t *testing.T) {
	n := sent(t, row("", "x")...)
	for _, at := range []int{0, 1, -1, 7, math.MinInt, math.MaxInt} {
		for _, by := range []byte{0, 1, 255} {
			is(t, "Turn", n.Turn(0, at, by), api.OK)
			is(t, "Turn", n.Turn(1, at, by), api.OK)
			holds(t, "turned", n, 2, packet(0, ""), packet(1, turned("x", 0, by)))
			is(t, "Turn", n.Turn(1, at, by), api.OK)
		}
	}
}

// P18.2: what is turned into a frame that nobody sent stays as it was.
func TestTurnToFrame(t *testing.T) {
	for _, want := range kinds(t) {
		for at := range want {
			n := sent(t, packet(0, "a"), packet(2, turned(want, at, 9)), packet(1, "b"))
			before := n.List()
			for _, place := range []int{at, at - len(want), at + 3*len(want)} {
				is(t, "Turn", n.Turn(1, place, 9), api.ErrTwice)
				holds(t, "refused", n, 3, before...)
			}
			// One byte aside it is no frame.
			is(t, "Turn", n.Turn(1, at, 8), api.OK)
			is(t, "Turn", n.Turn(1, at, 1), api.ErrTwice)
			is(t, "Turn", n.Turn(1, at, 8), api.OK)
			holds(t, "to and fro", n, 3, before...)
			// Once it was sent, to whomever, it may come of turning.
			is(t, "Send", n.Send(packet(net.Collector, want)), api.OK)
			is(t, "Drop", n.Drop(3), api.OK)
			is(t, "Turn", n.Turn(1, at, 9), api.OK)
			holds(t, "sent", n, 4, packet(0, "a"), packet(2, want), packet(1, "b"))
		}
	}
}

// P18.2, P18.3: a frame that was sent, and is turned once by other than 0, isn't one; turned back it is.
func TestTurnOfFrame(t *testing.T) {
	for _, text := range kinds(t) {
		n := sent(t, packet(3, text))
		for at := range text {
			is(t, "Turn", n.Turn(0, at, 0), api.OK)
			holds(t, "turned by 0", n, 1, packet(3, text))
			for by := 1; by < 256; by++ {
				is(t, "Turn", n.Turn(0, at, byte(by)), api.OK)
				got := n.List()[0]
				if string(got.Bytes) != turned(text, at, byte(by)) || isFrame(string(got.Bytes)) {
					t.Fatalf("%x turned at %d by %d is %x", text, at, by, got.Bytes)
				}
				is(t, "Turn", n.Turn(0, at, byte(by)), api.OK)
			}
		}
		holds(t, "turned back", n, 1, packet(3, text))
	}
}

// P18.2: a greatest packet is turned at its ends.
func TestTurnGreatest(t *testing.T) {
	text := strings.Repeat("z", api.MaxFrame)
	n := sent(t, packet(0, text))
	is(t, "Turn", n.Turn(0, -1, 1), api.OK)
	is(t, "Turn", n.Turn(0, api.MaxFrame, 2), api.OK)
	holds(t, "turned", n, 1, packet(0, turned(turned(text, api.MaxFrame-1, 1), 0, 2)))
}

// P18.2: Replay tells what was sent as it was, whatever became of it, and isn't sent itself.
func TestReplay(t *testing.T) {
	l := row("ab", "cd", hello(t, 3), "")
	n := sent(t, l...)
	is(t, "Turn", n.Turn(2, 1, 7), api.OK)
	is(t, "Turn", n.Turn(1, 1, 7), api.OK)
	delivers(t, n, 0, l[0])
	is(t, "Drop", n.Drop(0), api.OK)
	left := n.List()
	for i := range l {
		is(t, "Replay", n.Replay(i), api.OK)
		left = append(left, l[i])
		holds(t, "replayed", n, 4, left...)
	}
	is(t, "Replay", n.Replay(4), api.ErrNone)
	// What is turned behind a Replay is that one alone.
	is(t, "Replay", n.Replay(0), api.OK)
	is(t, "Turn", n.Turn(6, 0, 1), api.OK)
	is(t, "Replay", n.Replay(0), api.OK)
	holds(t, "replayed", n, 4, append(left, packet(0, "`b"), packet(0, "ab"))...)
}

// P18.2: what was forged, doubled or replayed has no place among those that were sent.
func TestReplaySent(t *testing.T) {
	n := sent(t, packet(0, "a"))
	is(t, "Forge", n.Forge(packet(5, "f")), api.OK)
	is(t, "Double", n.Double(0), api.OK)
	is(t, "Replay", n.Replay(0), api.OK)
	is(t, "Replay", n.Replay(1), api.ErrNone)
	is(t, "Send", n.Send(packet(7, "b")), api.OK)
	is(t, "Replay", n.Replay(1), api.OK)
	holds(t, "replayed", n, 2, packet(0, "a"), packet(5, "f"), packet(0, "a"), packet(0, "a"), packet(7, "b"), packet(7, "b"))
}

// P18.3: what is forged is the last one, but isn't remembered.
func TestForge(t *testing.T) {
	n := sent(t, packet(0, "a"))
	var want []net.Packet
	for to := -1; to < api.MaxAgents; to++ {
		p := packet(to, strings.Repeat("x", to+1))
		is(t, "Forge", n.Forge(p), api.OK)
		want = append(want, p)
		holds(t, "forged", n, 1, append([]net.Packet{packet(0, "a")}, want...)...)
	}
	is(t, "Replay", n.Replay(1), api.ErrNone)
	delivers(t, n, 9, want[8])
}

// P18.3: Forge has Send's errors, ahead of its own.
func TestForgeArg(t *testing.T) {
	n := net.New()
	for _, to := range nobodies {
		for _, text := range []string{"", "b", hello(t, 1), strings.Repeat("x", api.MaxFrame+1)} {
			is(t, "Forge", n.Forge(packet(to, text)), api.ErrArg)
		}
	}
	for _, many := range []int{api.MaxFrame + 1, 2 * api.MaxFrame} {
		is(t, "Forge", n.Forge(packet(0, strings.Repeat("x", many))), api.ErrLong)
	}
	holds(t, "refused", n, 0)
	is(t, "Forge", n.Forge(packet(0, strings.Repeat("x", api.MaxFrame))), api.OK)
	holds(t, "forged", n, 0, packet(0, strings.Repeat("x", api.MaxFrame)))
}

// P18.3: nobody forges a frame that nobody sent; one that was sent is forged, to whomever, whatever became of it.
func TestForgeFrame(t *testing.T) {
	for _, text := range kinds(t) {
		n := net.New()
		is(t, "Forge", n.Forge(packet(0, text)), api.ErrTwice)
		holds(t, "refused", n, 0)
		is(t, "Send", n.Send(packet(1, text)), api.OK)
		is(t, "Forge", n.Forge(packet(0, text)), api.OK)
		holds(t, "forged", n, 1, packet(1, text), packet(0, text))
		is(t, "Drop", n.Drop(0), api.OK)
		is(t, "Turn", n.Turn(0, 0, 1), api.OK)
		is(t, "Forge", n.Forge(packet(net.Collector, text)), api.OK)
		holds(t, "forged", n, 1, packet(0, turned(text, 0, 1)), packet(net.Collector, text))
		delivers(t, n, 1, packet(net.Collector, text))
		is(t, "Forge", n.Forge(packet(2, text)), api.OK)
	}
}

// P18.3: what is no frame is forged, as near to one as it may be; but isn't turned to one.
func TestForgeNear(t *testing.T) {
	for _, text := range kinds(t) {
		n := net.New()
		var want []net.Packet
		for at := range text {
			p := packet(net.Collector, turned(text, at, 64))
			is(t, "Forge", n.Forge(p), api.OK)
			want = append(want, p)
			is(t, "Turn", n.Turn(at, at, 64), api.ErrTwice)
		}
		for _, near := range []string{text[:len(text)-1], text + "\x00", text[1:], text + text} {
			is(t, "Forge", n.Forge(packet(0, near)), api.OK)
			want = append(want, packet(0, near))
		}
		holds(t, "forged", n, 0, want...)
	}
}

// P18.3: what was forged isn't sent: a frame that nobody sent doesn't come of its bytes.
func TestForgedIsntSent(t *testing.T) {
	n := sent(t, packet(0, hello(t, 1)))
	near := turned(hello(t, 2), 3, 5)
	is(t, "Forge", n.Forge(packet(1, near)), api.OK)
	is(t, "Double", n.Double(1), api.OK)
	is(t, "Turn", n.Turn(1, 3, 5), api.ErrTwice)
	is(t, "Turn", n.Turn(2, 3, 5), api.ErrTwice)
	is(t, "Forge", n.Forge(packet(1, hello(t, 2))), api.ErrTwice)
	holds(t, "refused", n, 1, packet(0, hello(t, 1)), packet(1, near), packet(1, near))
}

// P18.3, P1: a nil net.
func TestNil(t *testing.T) {
	var n *net.Net
	for _, to := range append([]int{0, 15, net.Collector}, nobodies...) {
		for _, text := range []string{"", "x", hello(t, 1), strings.Repeat("x", api.MaxFrame+1)} {
			is(t, "Send", n.Send(packet(to, text)), api.ErrNone)
			is(t, "Forge", n.Forge(packet(to, text)), api.ErrNone)
		}
	}
	for _, i := range []int{0, 1, -1, math.MinInt, math.MaxInt} {
		for name, call := range calls() {
			is(t, name, call(n, i), api.ErrNone)
		}
		is(t, "Replay", n.Replay(i), api.ErrNone)
	}
	holds(t, "nil", n, 0)
}
