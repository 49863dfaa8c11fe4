package spill

import (
	"sumpter/api"
	"sumpter/pack"
	"sumpter/runs"
	"sumpter/span"
)

// The kinds of records.
const (
	epochKind = iota + 1
	offerKind
	releasedKind
	allKind
)

// tooGreat is the least number that no record may tell.
const tooGreat = 1 << 62

// offer is what the record of an offer tells.
type offer struct {
	number   uint64
	released runs.Set
	victims  []uint64
	kept     bool
	span     span.Span
}

// doer does what a record tells, which has that number in the log; what is wrong with it in tells.
type doer func(s *Spill, at uint64, in *pack.In)

// doers answers of each kind how its records are done.
func doers() map[byte]doer {
	return map[byte]doer{
		epochKind:    (*Spill).doEpoch,
		offerKind:    (*Spill).doOffer,
		releasedKind: (*Spill).doReleased,
		allKind:      (*Spill).doAll,
	}
}

// doEpoch does a record of an epoch.
func (s *Spill) doEpoch(_ uint64, in *pack.In) {
	epoch := getNum(in)
	if epoch <= s.epoch {
		in.Fail(api.ErrForm)
	}
	s.epoch = epoch
}

// doOffer does a record of an offer.
func (s *Spill) doOffer(at uint64, in *pack.In) {
	o := getOffer(in)
	if o.number < s.next {
		in.Fail(api.ErrForm)
	}
	if in.Err() == api.OK && s.settle(o, at) != api.OK {
		in.Fail(api.ErrForm)
	}
}

// doReleased does a record of those that are released.
func (s *Spill) doReleased(_ uint64, in *pack.In) {
	s.letGo(getSet(in))
}

// doAll does a record of all that the records ahead of it told, but for the spans.
func (s *Spill) doAll(_ uint64, in *pack.In) {
	s.next = max(s.next, getNum(in))
	s.epoch = max(s.epoch, getNum(in))
	s.turnOut(getSet(in))
	s.letGo(getSet(in))
}

// putEpoch answers a record of an epoch.
func putEpoch(epoch uint64) []byte {
	return nums([]byte{epochKind}, epoch)
}

// putReleased answers a record of those that are released.
func putReleased(set runs.Set) []byte {
	return putSet([]byte{releasedKind}, set)
}

// putAll answers a record of all that the records so far tell, but for the spans.
func (s *Spill) putAll() []byte {
	p := nums([]byte{allKind}, s.next, s.epoch)
	return putSet(putSet(p, s.shed), s.released)
}

// put answers the record of an offer.
func (o offer) put() []byte {
	p := putSet(nums([]byte{offerKind}, o.number), o.released)
	p = nums(p, uint64(len(o.victims)))
	p = nums(p, o.victims...)
	if !o.kept {
		return append(p, 0)
	}
	return o.span.Put(append(p, 1))
}

// getOffer reads what the record of an offer tells.
func getOffer(in *pack.In) offer {
	var o offer
	o.number = getNum(in)
	o.released = getSet(in)
	for range getCount(in) {
		o.victims = append(o.victims, getNum(in))
	}
	switch in.Byte() {
	case 0:
		// It was shed itself, and nothing follows.
	case 1:
		o.kept = true
		o.span = span.Get(in)
	default:
		in.Fail(api.ErrForm)
	}
	return o
}

// putSet answers p and the set's runs behind it.
func putSet(p []byte, set runs.Set) []byte {
	l := set.Runs()
	p = nums(p, uint64(len(l)))
	for _, r := range l {
		p = nums(p, r.From, r.To)
	}
	return p
}

// getSet reads a set as putSet writes it.
func getSet(in *pack.In) runs.Set {
	var l []runs.Run
	for range getCount(in) {
		from := getNum(in)
		l = append(l, runs.Run{From: from, To: getNum(in)})
	}
	set, ok := runs.Make(l)
	if !ok {
		in.Fail(api.ErrForm)
	}
	return set
}

// getCount reads how many numbers, or runs, follow; more than there are bytes for is an error, and counts as 0, so that nothing is counted up to it.
func getCount(in *pack.In) int {
	n := getNum(in)
	if n > uint64(in.Left()) {
		in.Fail(api.ErrForm)
		return 0
	}
	return int(n)
}

// getNum reads a number; one that is too great is an error, and counts as 0.
func getNum(in *pack.In) uint64 {
	n := in.Num()
	if n >= tooGreat {
		in.Fail(api.ErrForm)
		return 0
	}
	return n
}

// nums answers p, which is its caller's to add to, and the numbers behind it.
func nums(p []byte, l ...uint64) []byte {
	for _, n := range l {
		// Num copies what it is put behind, which would be all numbers ahead, over and over.
		p = append(p, pack.Num(nil, n)...)
	}
	return p
}
