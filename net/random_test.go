package net_test

import (
	"bytes"
	"math/rand"
	"slices"
	"testing"

	"sumpter/api"
	"sumpter/net"
)

// plain is a net done plainly.
type plain struct {
	there, sent []net.Packet
}

// send is Send.
func (x *plain) send(p net.Packet) api.Errno {
	if p.To < -1 || p.To > 15 {
		return api.ErrArg
	}
	if len(p.Bytes) > 65507 {
		return api.ErrLong
	}
	x.there = append(x.there, p)
	x.sent = append(x.sent, p)
	return api.OK
}

// strange tells whether these bytes are a frame that nobody sent.
func (x *plain) strange(p []byte) bool {
	return isFrame(string(p)) && !slices.ContainsFunc(x.sent, func(q net.Packet) bool { return bytes.Equal(p, q.Bytes) })
}

// forge is Forge.
func (x *plain) forge(p net.Packet) api.Errno {
	if p.To < -1 || p.To > 15 {
		return api.ErrArg
	}
	if len(p.Bytes) > 65507 {
		return api.ErrLong
	}
	if x.strange(p.Bytes) {
		return api.ErrTwice
	}
	x.there = append(x.there, p)
	return api.OK
}

// out is Deliver, and Drop.
func (x *plain) out(i int) (net.Packet, api.Errno) {
	if i < 0 || i >= len(x.there) {
		return net.Packet{}, api.ErrNone
	}
	p := x.there[i]
	x.there = append(slices.Clone(x.there[:i]), x.there[i+1:]...)
	return p, api.OK
}

// double is Double.
func (x *plain) double(i int) api.Errno {
	if i < 0 || i >= len(x.there) {
		return api.ErrNone
	}
	x.there = append(x.there, x.there[i])
	return api.OK
}

// turn is Turn.
func (x *plain) turn(i, at int, by byte) api.Errno {
	if i < 0 || i >= len(x.there) {
		return api.ErrNone
	}
	p := bytes.Clone(x.there[i].Bytes)
	if len(p) == 0 {
		return api.OK
	}
	for at < 0 {
		at += len(p)
	}
	for at >= len(p) {
		at -= len(p)
	}
	p[at] ^= by
	if x.strange(p) {
		return api.ErrTwice
	}
	x.there[i].Bytes = p
	return api.OK
}

// replay is Replay.
func (x *plain) replay(i int) api.Errno {
	if i < 0 || i >= len(x.sent) {
		return api.ErrNone
	}
	x.there = append(x.there, x.sent[i])
	return api.OK
}

// texts answers what is sent and forged: frames, and what is no frame, one byte aside of some.
func texts(t *testing.T) []string {
	l := append(kinds(t), "", "x", "some bytes")
	for _, text := range kinds(t)[:2] {
		l = append(l, turned(text, 0, 1), turned(text, 3, 2))
	}
	return l
}

// step does one call to both, and looks whether it answers the same.
func step(t *testing.T, source *rand.Rand, n *net.Net, x *plain, texts []string) {
	t.Helper()
	i := source.Intn(len(x.there)+1) - source.Intn(12)/11
	p := packet(source.Intn(17)-1, texts[source.Intn(len(texts))])
	if source.Intn(30) == 0 {
		p.To = 16 - 18*source.Intn(2)
	}
	switch source.Intn(9) {
	case 0:
		is(t, "Send", n.Send(p), x.send(p))
	case 1:
		is(t, "Forge", n.Forge(p), x.forge(p))
	case 2, 3:
		want, f := x.out(i)
		if got, e := n.Deliver(i); e != f || !same(got, want) {
			t.Fatalf("Deliver(%d) is %v, error %d, want %v, %d", i, got, e, want, f)
		}
	case 4:
		_, f := x.out(i)
		is(t, "Drop", n.Drop(i), f)
	case 5:
		is(t, "Double", n.Double(i), x.double(i))
	case 6, 7:
		at, by := source.Intn(12)-6, byte(source.Intn(4))
		is(t, "Turn", n.Turn(i, at, by), x.turn(i, at, by))
	case 8:
		j := source.Intn(len(x.sent)+1) - source.Intn(12)/11
		is(t, "Replay", n.Replay(j), x.replay(j))
	}
}

// P18.1 to P18.3: a net does what a plain one does; and nowhere is a frame that nobody sent (P3).
func TestRandom(t *testing.T) {
	source := rand.New(rand.NewSource(18))
	l := texts(t)
	longest := 0
	for range 200 {
		n, x := net.New(), &plain{}
		for range 300 {
			step(t, source, n, x, l)
			holds(t, "both", n, len(x.sent), x.there...)
			for _, p := range n.List() {
				if x.strange(p.Bytes) {
					t.Fatalf("%x is a frame that nobody sent", p.Bytes)
				}
			}
			longest = max(longest, n.Len())
		}
	}
	if longest < 20 {
		t.Fatalf("never were more than %d on the wire", longest)
	}
}

// P18.2: a long row goes in order, and from its middle, in a time that isn't felt.
func TestLong(t *testing.T) {
	n := net.New()
	const many = 50000
	for i := range many {
		is(t, "Send", n.Send(packet(i%16, string([]byte{byte(i), byte(i >> 8)}))), api.OK)
	}
	for i := range many / 2 {
		delivers(t, n, 0, packet(i%16, string([]byte{byte(i), byte(i >> 8)})))
	}
	for i := many / 2; i < many; i++ {
		at := (n.Len() - 1) / 2
		is(t, "Drop", n.Drop(at), api.OK)
	}
	holds(t, "all gone", n, many)
}
