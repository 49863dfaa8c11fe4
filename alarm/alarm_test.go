package alarm_test

import (
	"cmp"
	"math"
	"math/rand"
	"slices"
	"testing"

	"sumpter/alarm"
)

// most is the greatest id.
const most = math.MaxUint64

// one is who has a time.
type one struct {
	id uint64
	at int64
}

// set answers an alarm with these times.
func set(l ...one) *alarm.Alarm {
	a := alarm.New()
	for _, x := range l {
		a.Set(x.id, x.at)
	}
	return a
}

// holds looks whether just these have times, by all that an alarm tells of them.
func holds(t *testing.T, what string, a *alarm.Alarm, want ...one) {
	t.Helper()
	if a.Len() != len(want) {
		t.Fatalf("%s: Len is %d, want %d", what, a.Len(), len(want))
	}
	var next int64
	for i, x := range want {
		if i == 0 || x.at < next {
			next = x.at
		}
		if at, ok := a.When(x.id); !ok || at != x.at {
			t.Fatalf("%s: When(%d) is %d, %v, want %d", what, x.id, at, ok, x.at)
		}
	}
	if at, ok := a.Next(); at != next || ok != (len(want) > 0) {
		t.Fatalf("%s: Next is %d, %v, want %d", what, at, ok, next)
	}
}

// lacks looks whether these have no times.
func lacks(t *testing.T, what string, a *alarm.Alarm, ids ...uint64) {
	t.Helper()
	for _, id := range ids {
		if at, ok := a.When(id); at != 0 || ok {
			t.Fatalf("%s: When(%d), who has none, is %d, %v", what, id, at, ok)
		}
		if a.Clear(id) {
			t.Fatalf("%s: Clear(%d), who has none, is true", what, id)
		}
	}
}

// wakes looks whether just these are Due, in this order.
func wakes(t *testing.T, what string, a *alarm.Alarm, now int64, want ...uint64) {
	t.Helper()
	if got := a.Due(now); !slices.Equal(got, want) {
		t.Fatalf("%s: Due(%d) is %v, want %v", what, now, got, want)
	}
	lacks(t, what, a, want...)
}

// P12.1: the chapter's example.
func TestExample(t *testing.T) {
	a := set(one{5, 9}, one{3, 9}, one{5, 2})
	wakes(t, "the chapter's", a, 9, 5, 3)
	holds(t, "the chapter's", a)
}

// P12.1: at first nobody has a time.
func TestNew(t *testing.T) {
	a := alarm.New()
	if a == nil {
		t.Fatal("New is nil")
	}
	holds(t, "a new one", a)
	lacks(t, "a new one", a, 0, 1, most)
	wakes(t, "a new one", a, math.MinInt64)
	wakes(t, "a new one", a, math.MaxInt64)
}

// P12.1: a time that is set anew stands instead of the other one, earlier or later or the same.
func TestSetAnew(t *testing.T) {
	a := set(one{1, 10}, one{2, 20}, one{3, 30})
	a.Set(3, 5)
	holds(t, "earlier", a, one{1, 10}, one{2, 20}, one{3, 5})
	a.Set(1, 25)
	holds(t, "later", a, one{1, 25}, one{2, 20}, one{3, 5})
	a.Set(2, 20)
	holds(t, "the same", a, one{1, 25}, one{2, 20}, one{3, 5})
	a.Set(3, 99)
	holds(t, "the first is the last", a, one{1, 25}, one{2, 20}, one{3, 99})
	wakes(t, "ahead of all", a, 19)
	wakes(t, "in order", a, 99, 2, 1, 3)
	holds(t, "nobody is left", a)
	a.Set(3, 5)
	holds(t, "once more", a, one{3, 5})
}

// P12.1: a time that an id had doesn't wake it, nor tells it as the next one.
func TestSetForgets(t *testing.T) {
	a := alarm.New()
	for at := int64(100); at > 0; at-- {
		a.Set(7, at)
		a.Set(8, 200-at)
	}
	holds(t, "set often", a, one{7, 1}, one{8, 199})
	wakes(t, "once", a, 150, 7)
	wakes(t, "once", a, 198)
	holds(t, "the other", a, one{8, 199})
	wakes(t, "the other", a, math.MaxInt64, 8)
}

// P12.1: who is cleared has no time; who has none can't be.
func TestClear(t *testing.T) {
	a := set(one{1, 10}, one{2, 20}, one{3, 30}, one{4, 40})
	for _, x := range []struct {
		id   uint64
		left []one
	}{
		{3, []one{{1, 10}, {2, 20}, {4, 40}}},
		{1, []one{{2, 20}, {4, 40}}},
		{4, []one{{2, 20}}},
		{2, nil},
	} {
		lacks(t, "another one", a, 0, 5, most)
		if !a.Clear(x.id) {
			t.Fatalf("Clear(%d) is false", x.id)
		}
		lacks(t, "it", a, x.id)
		holds(t, "the others", a, x.left...)
	}
	wakes(t, "nobody is left", a, math.MaxInt64)
	a = set(one{1, 10}, one{2, 10})
	a.Clear(1)
	a.Set(1, 30)
	wakes(t, "set once more", a, 29, 2)
	wakes(t, "set once more", a, 30, 1)
}

// P12.1: Due of none, of some, of all: now or earlier, and these have none any more.
func TestDue(t *testing.T) {
	a := set(one{4, 40}, one{2, 20}, one{1, 10}, one{3, 30})
	wakes(t, "none", a, 9)
	holds(t, "none", a, one{1, 10}, one{2, 20}, one{3, 30}, one{4, 40})
	wakes(t, "now", a, 10, 1)
	holds(t, "now", a, one{2, 20}, one{3, 30}, one{4, 40})
	wakes(t, "again", a, 10)
	wakes(t, "some", a, 39, 2, 3)
	holds(t, "some", a, one{4, 40})
	a.Set(2, 5)
	wakes(t, "time may turn back", a, 5, 2)
	wakes(t, "all", a, 1000, 4)
	holds(t, "all", a)
	wakes(t, "nobody is left", a, math.MaxInt64)
}

// P12.1: of one time by their ids, whatever the order in which they were set.
func TestDueEqual(t *testing.T) {
	ids := []uint64{0, 1, 2, 3, 9, 10, 1 << 40, 1<<63 - 1, 1 << 63, most - 1, most}
	source := rand.New(rand.NewSource(12))
	for range 100 {
		a := alarm.New()
		for _, i := range source.Perm(len(ids)) {
			a.Set(ids[i], 7)
		}
		wakes(t, "ahead", a, 6)
		wakes(t, "of one time", a, 7, ids...)
	}
	a := set(one{5, 2}, one{1, 3}, one{4, 2}, one{0, 3}, one{9, 1})
	wakes(t, "times ahead of ids", a, 3, 9, 4, 5, 0, 1)
}

// P12.1: times below 0, and the least and the greatest there are.
func TestTimes(t *testing.T) {
	l := []one{{1, math.MinInt64}, {2, math.MinInt64 + 1}, {3, -1}, {4, 0}, {5, 1}, {6, math.MaxInt64 - 1}, {7, math.MaxInt64}}
	source := rand.New(rand.NewSource(13))
	for range 50 {
		a := alarm.New()
		for _, i := range source.Perm(len(l)) {
			a.Set(l[i].id, l[i].at)
		}
		for i, x := range l {
			holds(t, "any times", a, l[i:]...)
			if x.at > math.MinInt64 {
				wakes(t, "just ahead", a, x.at-1)
			}
			wakes(t, "just then", a, x.at, x.id)
		}
	}
	a := set(l...)
	wakes(t, "below 0", a, -1, 1, 2, 3)
	wakes(t, "all", a, math.MaxInt64, 4, 5, 6, 7)
	// A time of 0 is one.
	a.Set(0, 0)
	holds(t, "0 at 0", a, one{0, 0})
	if !a.Clear(0) {
		t.Error("Clear of a time of 0 is false")
	}
}

// P12.1, P1: of a nil alarm.
func TestNil(t *testing.T) {
	var a *alarm.Alarm
	a.Set(1, 1)
	holds(t, "a nil alarm", a)
	lacks(t, "a nil alarm", a, 0, 1, most)
	wakes(t, "a nil alarm", a, math.MaxInt64)
	if a.Due(math.MaxInt64) != nil {
		t.Error("Due of a nil alarm is a list")
	}
}

// Rule of memory: what Due answers is the caller's own.
func TestAnsweredLists(t *testing.T) {
	a := set(one{1, 1}, one{2, 1}, one{3, 2}, one{4, 3})
	two := a.Due(1)
	whole := two[:cap(two)]
	for i := range whole {
		whole[i] = 77
	}
	three := a.Due(2)
	holds(t, "written over", a, one{4, 3})
	a.Set(5, 0)
	if !slices.Equal(three, []uint64{3}) || !slices.Equal(two, []uint64{77, 77}) {
		t.Errorf("an answer changed: %v, %v", two, three)
	}
	wakes(t, "written over", a, 3, 5, 4)
}

// Two alarms know nothing of each other.
func TestTwoAlarms(t *testing.T) {
	a, b := set(one{1, 10}), set(one{1, 20}, one{2, 20})
	wakes(t, "the one", a, 15, 1)
	holds(t, "the other", b, one{1, 20}, one{2, 20})
	b.Clear(1)
	a.Set(2, 3)
	holds(t, "the other", b, one{2, 20})
	holds(t, "the one", a, one{2, 3})
}

// plain is an alarm done plainly: a map that is gone through each time.
type plain map[uint64]int64

// list answers all who have a time, by these and by their ids.
func (p plain) list() []one {
	var l []one
	for id, at := range p {
		l = append(l, one{id, at})
	}
	slices.SortFunc(l, func(a, b one) int { return cmp.Or(cmp.Compare(a.at, b.at), cmp.Compare(a.id, b.id)) })
	return l
}

// due is Due.
func (p plain) due(now int64) []uint64 {
	var due []uint64
	for _, x := range p.list() {
		if x.at <= now {
			due = append(due, x.id)
			delete(p, x.id)
		}
	}
	return due
}

// P12.1, P2: any calls.
func TestRandomCalls(t *testing.T) {
	source := rand.New(rand.NewSource(14))
	for range 300 {
		a, p := alarm.New(), plain{}
		for range 200 {
			id, at := uint64(source.Intn(30)), int64(source.Intn(41)-20)
			switch source.Intn(6) {
			case 0, 1, 2:
				a.Set(id, at)
				p[id] = at
			case 3, 4:
				_, had := p[id]
				delete(p, id)
				if a.Clear(id) != had {
					t.Fatalf("Clear(%d) is %v", id, !had)
				}
			case 5:
				wakes(t, "any calls", a, at-15, p.due(at-15)...)
			}
			holds(t, "any calls", a, p.list()...)
		}
		wakes(t, "at last", a, math.MaxInt64, p.due(math.MaxInt64)...)
		holds(t, "at last", a)
	}
}
