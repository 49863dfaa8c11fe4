package queue

import "slices"

// line is who waits of one class.
type line struct {
	// numbers rise, so that the oldest is first.
	numbers []uint64
	// bytes are all their Sizes.
	bytes int
}

// add lets one of that size wait behind all.
func (l *line) add(n uint64, size int) {
	l.numbers = append(l.numbers, n)
	l.bytes += size
}

// strike takes one of that size out, who is there.
func (l *line) strike(n uint64, size int) {
	i, _ := slices.BinarySearch(l.numbers, n)
	// Who goes is most often among the oldest: so those ahead move up, not all those behind.
	copy(l.numbers[1:i+1], l.numbers[:i])
	l.numbers = l.numbers[1:]
	l.bytes -= size
}
