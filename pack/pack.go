// Package pack is layer 2, numbers and bytes, strictly: see shared/doc/02-pack.md.
package pack

import (
	"bytes"

	"sumpter/api"
)

const (
	// more is added to each byte of a number but the last.
	more = 0x80
	// lastPlace is where the last byte of the longest number stands; of 64 bits only one is left for it.
	lastPlace = 9
)

// Num answers p and n behind it, seven bits a byte, the lowest first.
func Num(p []byte, n uint64) []byte {
	// Cut to its length, p is copied by the first append, and its spare room stays as it is.
	p = p[:len(p):len(p)]
	for n >= more {
		p = append(p, byte(n)|more)
		n >>= 7
	}
	return append(p, byte(n))
}

// Bytes answers p and behind it how many bytes b has, and b.
func Bytes(p []byte, b []byte) []byte {
	return append(Num(p, uint64(len(b))), b...)
}

// In reads bytes from their beginning on, up to the first error.
type In struct {
	rest []byte
	err  api.Errno
}

// Of answers what reads p; it reads a copy, since p is still its caller's.
func Of(p []byte) *In {
	return &In{rest: bytes.Clone(p)}
}

// Byte reads a byte.
func (in *In) Byte() byte {
	if !in.reads() {
		return 0
	}
	if len(in.rest) == 0 {
		in.err = api.ErrForm
		return 0
	}
	return in.take(1)[0]
}

// Num reads a number as Num writes it.
func (in *In) Num() uint64 {
	if !in.reads() {
		return 0
	}
	n, size, err := number(in.rest)
	if err != api.OK {
		in.err = err
		return 0
	}
	in.take(size)
	return n
}

// Bytes reads bytes as Bytes writes them, if there are at most that many.
func (in *In) Bytes(most int) []byte {
	if !in.reads() {
		return nil
	}
	n, size, err := number(in.rest)
	if err == api.OK {
		err = judge(n, most, len(in.rest)-size)
	}
	if err != api.OK {
		in.err = err
		return nil
	}
	in.take(size)
	return bytes.Clone(in.take(int(n)))
}

// Left answers how many bytes are left.
func (in *In) Left() int {
	if in == nil {
		return 0
	}
	return len(in.rest)
}

// Fail makes e the error, if there was none.
func (in *In) Fail(e api.Errno) {
	if in.reads() {
		in.err = e
	}
}

// Err answers the error.
func (in *In) Err() api.Errno {
	if in == nil {
		return api.ErrNone
	}
	return in.err
}

// End answers the error; bytes that are left are one.
func (in *In) End() api.Errno {
	if in.Left() > 0 {
		in.Fail(api.ErrForm)
	}
	return in.Err()
}

// reads tells whether there is something to read from and no error yet.
func (in *In) reads() bool {
	return in != nil && in.err == api.OK
}

// take goes past the next bytes, of which the caller knows that they are there.
func (in *In) take(size int) []byte {
	b := in.rest[:size]
	in.rest = in.rest[size:]
	return b
}

// number answers the number that p begins with, and how many bytes it takes.
func number(p []byte) (uint64, int, api.Errno) {
	n := uint64(0)
	for i, b := range p {
		// Held ahead of all else, so that what comes behind doesn't matter.
		if i == lastPlace && b > 1 {
			return 0, 0, api.ErrOver
		}
		n |= uint64(b&^more) << (7 * i)
		if b >= more {
			continue
		}
		if b == 0 && i > 0 {
			return 0, 0, api.ErrForm
		}
		return n, i + 1, api.OK
	}
	return 0, 0, api.ErrForm
}

// judge tells what is wrong with n bytes where at most that many may be, and left are there.
func judge(n uint64, most, left int) api.Errno {
	// As numbers without a sign: as an int, n could turn negative.
	if most < 0 || n > uint64(most) {
		return api.ErrLong
	}
	if n > uint64(left) {
		return api.ErrForm
	}
	return api.OK
}
