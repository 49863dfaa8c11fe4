package mark_test

import (
	"bytes"
	"hash/crc32"
	"math/rand"
	"testing"

	"sumpter/api"
	"sumpter/mark"
)

// bitByBit is the sum as P1.1 tells it, step by step.
func bitByBit(p []byte) uint32 {
	register := ^uint32(0)
	for _, b := range p {
		for i := range 8 {
			unlike := register&1 != uint32(b>>i)&1
			register >>= 1
			if unlike {
				register ^= 0xedb88320
			}
		}
	}
	return ^register
}

// rows are rows of bytes of many lengths, the same in every run.
func rows() [][]byte {
	source := rand.New(rand.NewSource(1))
	out := [][]byte{nil, {}, {0}, {0xff}, {0, 0, 0, 0}, {0xff, 0xff, 0xff, 0xff}, []byte("123456789")}
	for size := range 70 {
		p := make([]byte, size)
		source.Read(p)
		out = append(out, p)
	}
	return out
}

// P1.1: sums that are known from elsewhere.
func TestSumKnown(t *testing.T) {
	for _, x := range []struct {
		p    string
		want uint32
	}{
		{"123456789", 0xcbf43926},
		{"", 0},
		{"a", 0xe8b7be43},
		{"\x00", 0xd202ef8d},
		{"\x00\x00\x00\x00", 0x2144df1c},
		{"\xff\xff\xff\xff", 0xffffffff},
		{"The quick brown fox jumps over the lazy dog", 0x414fa339},
	} {
		if got := mark.Sum([]byte(x.p)); got != x.want {
			t.Errorf("Sum(%q) = %08x, want %08x", x.p, got, x.want)
		}
	}
	if mark.Sum(nil) != 0 {
		t.Errorf("Sum(nil) = %08x", mark.Sum(nil))
	}
}

// P1.1: every byte, and rows of many lengths, against the promise's own words and the library's sum.
func TestSumAll(t *testing.T) {
	all := rows()
	for b := range 256 {
		all = append(all, []byte{byte(b)}, []byte{7, byte(b), 9})
	}
	for _, p := range all {
		if got := mark.Sum(p); got != bitByBit(p) || got != crc32.ChecksumIEEE(p) {
			t.Fatalf("Sum(%x) = %08x, want %08x", p, got, bitByBit(p))
		}
	}
}

// P1.1: wherever a row is cut, More of its first part's sum and the rest is the whole's sum.
func TestMoreCut(t *testing.T) {
	for _, p := range rows() {
		for cut := range len(p) + 1 {
			if got := mark.More(mark.Sum(p[:cut]), p[cut:]); got != bitByBit(p) {
				t.Fatalf("More at %d of %x = %08x, want %08x", cut, p, got, bitByBit(p))
			}
		}
	}
}

// P1.1: More of nothing is the sum itself, of sums that are any number.
func TestMoreNothing(t *testing.T) {
	for _, sum := range []uint32{0, 1, 0xcbf43926, 0x80000000, 0xffffffff} {
		if mark.More(sum, nil) != sum || mark.More(sum, []byte{}) != sum {
			t.Errorf("More(%08x, nothing) isn't it", sum)
		}
		if got, want := mark.More(sum, []byte("xyz")), crc32.Update(sum, crc32.IEEETable, []byte("xyz")); got != want {
			t.Errorf("More(%08x, xyz) = %08x, want %08x", sum, got, want)
		}
	}
}

// P1.2: the sum stands behind, the lowest byte first; and back.
func TestCloseOpen(t *testing.T) {
	for _, p := range rows() {
		sum := bitByBit(p)
		want := append(bytes.Clone(p), byte(sum), byte(sum>>8), byte(sum>>16), byte(sum>>24))
		closed := mark.Close(p)
		if !bytes.Equal(closed, want) {
			t.Fatalf("Close(%x) = %x, want %x", p, closed, want)
		}
		if back, e := mark.Open(closed); e != api.OK || !bytes.Equal(back, p) {
			t.Fatalf("Open(%x) = %x, %d", closed, back, e)
		}
	}
	if got := mark.Close([]byte("123456789")); !bytes.Equal(got[9:], []byte{0x26, 0x39, 0xf4, 0xcb}) {
		t.Errorf("the sum of 123456789 stands as %x", got[9:])
	}
	if got := mark.Close(nil); !bytes.Equal(got, []byte{0, 0, 0, 0}) {
		t.Errorf("Close(nil) = %x", got)
	}
}

// P1.2: fewer than four bytes are ErrForm, whatever they are; four are enough.
func TestOpenShort(t *testing.T) {
	for _, p := range [][]byte{nil, {}, {0}, {0, 0}, {0, 0, 0}, {1, 2, 3}, {0xff, 0xff, 0xff}} {
		if back, e := mark.Open(p); e != api.ErrForm || len(back) != 0 {
			t.Errorf("Open(%x) = %x, %d, want ErrForm", p, back, e)
		}
	}
	if back, e := mark.Open([]byte{0, 0, 0, 0}); e != api.OK || len(back) != 0 {
		t.Errorf("Open of no bytes closed = %x, %d", back, e)
	}
}

// P1.2: a sum that isn't that of what stands ahead is ErrSum: another one, one the other way round, one byte less or more.
func TestOpenSum(t *testing.T) {
	closed := mark.Close([]byte("123456789"))
	turned := []byte("123456789\xcb\xf4\x39\x26")
	for _, p := range [][]byte{
		{0, 0, 0, 1}, {1, 0, 0, 0}, {0xff, 0xff, 0xff, 0xff}, {9, 0, 0, 0, 0},
		turned, closed[1:], closed[:len(closed)-1], append(bytes.Clone(closed), 0), append([]byte{0}, closed...),
	} {
		if back, e := mark.Open(p); e != api.ErrSum || back != nil {
			t.Errorf("Open(%x) = %x, %d, want ErrSum", p, back, e)
		}
	}
}

// P1.3: each byte of a closed row, those of the sum too, turned into each other one.
func TestTurnedByte(t *testing.T) {
	for _, p := range [][]byte{nil, {0}, []byte("hi"), []byte("123456789"), make([]byte, 40)} {
		closed := mark.Close(p)
		for at := range closed {
			for by := 1; by < 256; by++ {
				turned := bytes.Clone(closed)
				turned[at] ^= byte(by)
				if back, e := mark.Open(turned); e != api.ErrSum || len(back) != 0 {
					t.Fatalf("%x with byte %d turned by %02x: %x, %d", closed, at, by, back, e)
				}
			}
		}
	}
}

// patterns are bits to be turned within four bytes: each one, each two, all, and others.
func patterns() []uint32 {
	out := []uint32{0xffffffff, 0xedb88320, 0x04c11db7, 0x80000001, 0xff0000ff}
	for i := range 32 {
		for j := range i + 1 {
			out = append(out, 1<<i|1<<j)
		}
	}
	source := rand.New(rand.NewSource(3))
	for range 2000 {
		out = append(out, source.Uint32()|1)
	}
	return out
}

// P1.3: bits within four bytes one behind the other, wherever they stand, also where they reach into the sum.
func TestTurnedBits(t *testing.T) {
	for _, p := range [][]byte{nil, {5}, []byte("abc"), []byte("123456789"), make([]byte, 21)} {
		closed := mark.Close(p)
		for at := range len(closed) - 3 {
			for _, bits := range patterns() {
				turned := bytes.Clone(closed)
				for i := range 4 {
					turned[at+i] ^= byte(bits >> (8 * i))
				}
				if back, e := mark.Open(turned); e != api.ErrSum || len(back) != 0 {
					t.Fatalf("%x turned by %08x from %d on: %x, %d", closed, bits, at, back, e)
				}
			}
		}
	}
}

// roomy answers p with spare room behind it, and the whole of it.
func roomy(p []byte) (row, whole []byte) {
	whole = append(bytes.Clone(p), bytes.Repeat([]byte{0xee}, 32)...)
	return whole[:len(p)], whole
}

// overwrite writes over all of p's memory.
func overwrite(p []byte) {
	p = p[:cap(p)]
	for i := range p {
		p[i] = 0x55
	}
}

// Rule of memory: what is handed in stays, its spare room too, and no answer shares with it or with another answer.
func TestMemory(t *testing.T) {
	calls := map[string]func([]byte) []byte{
		"Close": mark.Close,
		"Open":  func(p []byte) []byte { q, _ := mark.Open(p); return q },
		"Sum":   func(p []byte) []byte { mark.Sum(p); mark.More(1, p); return nil },
	}
	for name, call := range calls {
		for _, p := range [][]byte{{}, {0, 0, 0, 0}, mark.Close([]byte("123456789")), []byte("no sum here")} {
			row, whole := roomy(p)
			before := bytes.Clone(whole)
			first, second := call(row), call(row)
			want := bytes.Clone(second)
			overwrite(first)
			if !bytes.Equal(second, want) {
				t.Errorf("%s(%x): two answers share memory", name, p)
			}
			if !bytes.Equal(whole, before) {
				t.Errorf("%s(%x): the argument or its spare room changed", name, p)
			}
			overwrite(whole)
			if !bytes.Equal(second, want) {
				t.Errorf("%s(%x): the answer shares memory with the argument", name, p)
			}
		}
	}
}

// P2: the same arguments have the same answer, however much spare room they have.
func TestSameAgain(t *testing.T) {
	for _, p := range rows() {
		row, _ := roomy(p)
		if mark.Sum(row) != mark.Sum(p) || !bytes.Equal(mark.Close(row), mark.Close(p)) {
			t.Fatalf("%x: spare room changes the answer", p)
		}
	}
}
