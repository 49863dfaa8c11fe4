package net_test

import (
	"bytes"
	"slices"
	"testing"

	"sumpter/api"
	"sumpter/net"
)

// overwrite writes over a list, and over its spare room.
func overwrite[E any](l []E, with E) {
	l = l[:cap(l)]
	for i := range l {
		l[i] = with
	}
}

// roomy answers a packet with spare room behind its bytes in which something stands, and the whole of it.
func roomy(to int, text string) (net.Packet, []byte) {
	whole := append([]byte(text), 0xee, 0xee, 0xee)
	return net.Packet{To: to, Bytes: whole[:len(text)]}, whole
}

// Rule of memory: a packet's bytes stay as they were, their spare room too, and aren't kept.
func TestPacketMemory(t *testing.T) {
	for _, text := range []string{"", "x", "some bytes", hello(t, 9)} {
		n := sent(t, packet(0, hello(t, 9)))
		for _, call := range []func(*net.Net, net.Packet) api.Errno{(*net.Net).Send, (*net.Net).Forge} {
			p, whole := roomy(4, text)
			before := bytes.Clone(whole)
			is(t, "a call", call(n, p), api.OK)
			if !bytes.Equal(whole, before) {
				t.Fatalf("what was handed in is %x", whole)
			}
			overwrite(whole, 0x55)
		}
		holds(t, "written over", n, 2, packet(0, hello(t, 9)), packet(4, text), packet(4, text))
		is(t, "Replay", n.Replay(1), api.OK)
		// It is known as what it was, too.
		is(t, "Forge", n.Forge(packet(5, text)), api.OK)
		holds(t, "replayed", n, 2, packet(0, hello(t, 9)), packet(4, text), packet(4, text), packet(4, text), packet(5, text))
	}
}

// Rule of memory: what is refused stays as it was, too.
func TestRefusedMemory(t *testing.T) {
	n := net.New()
	for _, call := range []func(*net.Net, net.Packet) api.Errno{(*net.Net).Send, (*net.Net).Forge} {
		p, whole := roomy(16, hello(t, 9))
		before := bytes.Clone(whole)
		is(t, "a call", call(n, p), api.ErrArg)
		if !bytes.Equal(whole, before) {
			t.Fatalf("what was handed in is %x", whole)
		}
	}
	p, whole := roomy(0, hello(t, 9))
	before := bytes.Clone(whole)
	is(t, "Forge", n.Forge(p), api.ErrTwice)
	if !bytes.Equal(whole, before) {
		t.Fatalf("what was handed in is %x", whole)
	}
}

// Rule of memory: what is answered is the caller's own, and no two answers share any.
func TestAnswers(t *testing.T) {
	l := row("abc", "def", "ghi")
	n := sent(t, l...)
	is(t, "Double", n.Double(0), api.OK)
	is(t, "Replay", n.Replay(0), api.OK)
	l = append(l, l[0], l[0])
	first, second := n.List(), n.List()
	for i := range first {
		if !slices.EqualFunc(first[i:], l[i:], same) {
			t.Fatalf("two lists share memory: %v", first)
		}
		overwrite(first[i].Bytes, 0x55)
	}
	overwrite(first, net.Packet{To: 77})
	if !slices.EqualFunc(second, l, same) {
		t.Fatalf("two answers share memory: %v", second)
	}
	overwrite(second, net.Packet{To: 88})
	holds(t, "written over", n, 3, l...)
	got, e := n.Deliver(0)
	is(t, "Deliver", e, api.OK)
	overwrite(got.Bytes, 0x66)
	other, e := n.Deliver(2)
	if e != api.OK || !same(other, l[0]) {
		t.Fatalf("two answers share memory: %v", other)
	}
	overwrite(other.Bytes, 0x77)
	holds(t, "delivered", n, 3, l[1], l[2], l[0])
	is(t, "Replay", n.Replay(0), api.OK)
	holds(t, "replayed", n, 3, l[1], l[2], l[0], l[0])
}

// Values: packets that were answered stay as they were, whatever the net does then.
func TestPackets(t *testing.T) {
	n := sent(t, row("abc", "abc")...)
	before := n.List()
	got, _ := n.Deliver(0)
	is(t, "Turn", n.Turn(0, 1, 1), api.OK)
	is(t, "Send", n.Send(packet(2, "xyz")), api.OK)
	is(t, "Drop", n.Drop(0), api.OK)
	if !slices.EqualFunc(before, row("abc", "abc"), same) || !same(got, packet(0, "abc")) {
		t.Fatalf("%v, %v", before, got)
	}
	holds(t, "then", n, 3, packet(2, "xyz"))
}

// Two nets know nothing of each other.
func TestTwoNets(t *testing.T) {
	a, b := net.New(), net.New()
	is(t, "Send", a.Send(packet(0, hello(t, 1))), api.OK)
	holds(t, "the other", b, 0)
	is(t, "Forge", b.Forge(packet(0, hello(t, 1))), api.ErrTwice)
	is(t, "Replay", b.Replay(0), api.ErrNone)
	is(t, "Send", b.Send(packet(1, "b")), api.OK)
	is(t, "Drop", b.Drop(0), api.OK)
	holds(t, "the first", a, 1, packet(0, hello(t, 1)))
}
