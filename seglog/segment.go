package seglog

import (
	"sumpter/api"
	"sumpter/mark"
)

const (
	// numberSize is how many bytes a head has for its number, headSize with the sum.
	numberSize = 8
	headSize   = numberSize + sumSize
	// countSize is how many bytes a record has for how many it is of, frontSize with the sum.
	countSize = 4
	sumSize   = 4
	frontSize = countSize + sumSize
	// tooGreat is the least number that no head may tell.
	tooGreat = 1 << 62
)

// segment is what a log knows of one of its disk's segments.
type segment struct {
	// number is the disk's.
	number uint64
	// first is the number of its first record, or what that would have; count is how many are whole.
	first, count uint64
	bytes        int
	// head: it has one; shut: it has none, or its last record is torn, so that nothing is added to it.
	head, shut bool
}

// Head answers what a segment begins with whose first record has that number.
func Head(first uint64) []byte {
	return mark.Close(putLow(nil, first, numberSize))
}

// Record answers p as it stands in a segment.
func Record(p []byte) []byte {
	row := putLow(nil, uint64(len(p)), countSize)
	row = putLow(row, uint64(mark.More(mark.Sum(row), p)), sumSize)
	return append(row, p...)
}

// read answers the segment that has the bytes p, where next is the number that comes next; begun: one with a head is ahead of it.
func read(p []byte, next uint64, begun bool) (segment, api.Errno) {
	s := segment{first: next, bytes: len(p), shut: true}
	if len(p) < headSize {
		return s, api.OK
	}
	opened, e := mark.Open(p[:headSize])
	if e != api.OK {
		return segment{}, e
	}
	s.first, s.head = getLow(opened), true
	if s.first == 0 || s.first >= tooGreat || begun && s.first != next {
		return segment{}, api.ErrForm
	}
	p = p[headSize:]
	for len(p) > 0 {
		whole, e := measure(p)
		if e != api.OK {
			return segment{}, e
		}
		if whole == 0 {
			return s, api.OK
		}
		if !right(p[:whole]) {
			return segment{}, api.ErrSum
		}
		s.count++
		p = p[whole:]
	}
	s.shut = false
	return s, api.OK
}

// measure answers how many bytes the record takes with which p begins; 0: it isn't all there.
func measure(p []byte) (int, api.Errno) {
	if len(p) < countSize {
		return 0, api.OK
	}
	count := getLow(p[:countSize])
	// It can be told by these bytes alone, so it is, whatever is behind them.
	if count > api.MaxRecord {
		return 0, api.ErrForm
	}
	whole := frontSize + int(count)
	if len(p) < whole {
		return 0, api.OK
	}
	return whole, api.OK
}

// right tells whether a whole record's sum is right.
func right(record []byte) bool {
	sum := mark.More(mark.Sum(record[:countSize]), record[frontSize:])
	return getLow(record[countSize:frontSize]) == uint64(sum)
}

// next answers one above the number of the last record.
func (s segment) next() uint64 {
	return s.first + s.count
}

// grown answers the last segment as a further record of n bytes makes it, where a segment of size bytes takes none: is it a new one? Not ok: there is no number for that.
func (s segment) grown(n, size int) (grown segment, begins, ok bool) {
	begins = s.shut || s.bytes >= size
	if begins {
		s = segment{number: s.number + 1, first: s.next(), bytes: headSize, head: true}
	}
	s.count++
	s.bytes += frontSize + n
	return s, begins, s.number > 0 || !begins
}

// putLow answers p and n behind it, in so many bytes, the lowest first.
func putLow(p []byte, n uint64, size int) []byte {
	for range size {
		p = append(p, byte(n))
		n >>= 8
	}
	return p
}

// getLow answers the number that putLow wrote.
func getLow(p []byte) uint64 {
	n := uint64(0)
	for i, b := range p {
		n |= uint64(b) << (8 * i)
	}
	return n
}
