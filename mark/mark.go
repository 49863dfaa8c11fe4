// Package mark is layer 1, sums that show what was turned: see shared/doc/01-mark.md.
package mark

import (
	"bytes"

	"sumpter/api"
)

// sumSize is how many bytes a sum takes behind what it is of.
const sumSize = 4

// halves tells what four steps make of a register whose lowest four bits are the place in the table and whose others are 0.
// It spares going bit by bit; one of whole bytes would be too long for a table at package level.
var halves = [16]uint32{
	0x00000000, 0x1db71064, 0x3b6e20c8, 0x26d930ac,
	0x76dc4190, 0x6b6b51f4, 0x4db26158, 0x5005713c,
	0xedb88320, 0xf00f9344, 0xd6d6a3e8, 0xcb61b38c,
	0x9b64c2b0, 0x86d3d2d4, 0xa00ae278, 0xbdbdf21c,
}

// Sum answers the CRC-32 of IEEE 802.3 of p.
func Sum(p []byte) uint32 {
	// No bytes have the sum 0: all bits set, and all turned at last.
	return More(0, p)
}

// More answers the sum of what has that sum with p behind it.
func More(sum uint32, p []byte) uint32 {
	// Turning the bits back gives the register as it was ahead of p.
	register := ^sum
	for _, b := range p {
		register ^= uint32(b)
		register = register>>4 ^ halves[register&15]
		register = register>>4 ^ halves[register&15]
	}
	return ^register
}

// Close answers p and its sum behind it, the lowest byte first.
func Close(p []byte) []byte {
	sum := Sum(p)
	// Cut to its length, p is copied by append, and its spare room stays as it is.
	return append(p[:len(p):len(p)], byte(sum), byte(sum>>8), byte(sum>>16), byte(sum>>24))
}

// Open answers what was closed to p.
func Open(p []byte) ([]byte, api.Errno) {
	if len(p) < sumSize {
		return nil, api.ErrForm
	}
	ahead := p[:len(p)-sumSize]
	closed := Close(ahead)
	if !bytes.Equal(closed, p) {
		return nil, api.ErrSum
	}
	// What was closed anew is a copy already.
	return closed[:len(ahead)], api.OK
}
