package ledger

import (
	"sumpter/api"
	"sumpter/pack"
	"sumpter/span"
)

// The kinds of records.
const (
	incarnationKind = iota + 1
	floorKind
	itemsKind
)

// tooGreat is the least number that no record may tell.
const tooGreat = 1 << 61

// do does what a record tells; what is wrong with it in tells.
func (l *Ledger) do(in *pack.In) {
	switch in.Byte() {
	case incarnationKind:
		l.doIncarnation(in)
	case floorKind:
		l.doFloor(in)
	case itemsKind:
		l.doItems(in)
	default:
		in.Fail(api.ErrForm)
	}
}

// doIncarnation does a record of an incarnation.
func (l *Ledger) doIncarnation(in *pack.In) {
	l.incarnation = getAbove(in, l.incarnation)
}

// doFloor does a record of an agent's floor.
func (l *Ledger) doFloor(in *pack.In) {
	a := &l.agents[getAgent(in)]
	a.floor = getAbove(in, a.floor)
}

// doItems does a record of an agent's items that came.
func (l *Ledger) doItems(in *pack.In) {
	agent := getAgent(in)
	base := getNum(in)
	items := getItems(in)
	w, taken := take(l.agents[agent].window, base, items)
	if len(taken) < len(items) {
		in.Fail(api.ErrForm)
	}
	l.settle(agent, w, taken)
}

// putIncarnation answers a record of an incarnation.
func putIncarnation(incarnation uint64) []byte {
	return pack.Num([]byte{incarnationKind}, incarnation)
}

// putFloor answers a record of an agent's floor.
func putFloor(agent int, epoch uint64) []byte {
	return pack.Num(pack.Num([]byte{floorKind}, uint64(agent)), epoch)
}

// putItems answers a record of an agent's items that came.
func putItems(agent int, base uint64, items []span.Item) []byte {
	p := pack.Num(pack.Num([]byte{itemsKind}, uint64(agent)), base)
	p = pack.Num(p, uint64(len(items)))
	for _, i := range items {
		// Put copies what it is put behind, which would be all items ahead, over and over.
		p = append(p, i.Put(nil)...)
	}
	return p
}

// getItems reads how many items follow, and these.
func getItems(in *pack.In) []span.Item {
	var items []span.Item
	n := in.Num()
	if n > uint64(in.Left()) {
		// There aren't bytes for so many, which mustn't be counted up to.
		in.Fail(api.ErrForm)
		return nil
	}
	for len(items) < int(n) && in.Err() == api.OK {
		i := span.GetItem(in)
		if i.Number >= tooGreat {
			in.Fail(api.ErrForm)
		}
		items = append(items, i)
	}
	return items
}

// getAgent reads an agent; one that there isn't is an error, and counts as 0.
func getAgent(in *pack.In) int {
	n := in.Num()
	if n >= api.MaxAgents {
		in.Fail(api.ErrForm)
		return 0
	}
	return int(n)
}

// getAbove reads a number that must be greater than what it was.
func getAbove(in *pack.In, was uint64) uint64 {
	n := getNum(in)
	if n <= was {
		in.Fail(api.ErrForm)
	}
	return n
}

// getNum reads a number; one that is too great is an error, and counts as 0.
func getNum(in *pack.In) uint64 {
	n := in.Num()
	if n >= tooGreat {
		in.Fail(api.ErrForm)
		return 0
	}
	return n
}
