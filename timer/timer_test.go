package timer_test

import (
	"math"
	"slices"
	"testing"

	"watchbill/api"
	"watchbill/timer"
)

type one struct {
	id int
	in int64
}

func made(t *testing.T, all ...one) *timer.Timer {
	t.Helper()
	x := timer.New()
	if x == nil {
		t.Fatal("P201: New: nothing")
	}
	put(t, x, all...)
	return x
}

func put(t *testing.T, x *timer.Timer, all ...one) {
	t.Helper()
	for _, o := range all {
		if e := x.Put(o.id, o.in); e != api.OK {
			t.Fatalf("P201: Put(%v): %v", o, e)
		}
	}
}

// tells holds all that x tells, but for its Ticks, against those that must be
// there, each with the Ticks that are left.
func tells(t *testing.T, what string, x *timer.Timer, want ...one) {
	t.Helper()
	if x.Len() != len(want) {
		t.Errorf("%s: Len: %d, not %d", what, x.Len(), len(want))
	}
	for id := -2; id < 258; id++ {
		left, there := int64(0), false
		if i := slices.IndexFunc(want, func(o one) bool { return o.id == id }); i >= 0 {
			left, there = want[i].in, true
		}
		if n, ok := x.Left(id); n != left || ok != there {
			t.Errorf("%s: Left(%d): %d, %v, not %d, %v", what, id, n, ok, left, there)
		}
	}
}

func ticks(t *testing.T, what string, x *timer.Timer, want ...[]int) {
	t.Helper()
	for i, w := range want {
		if got := x.Tick(); !slices.Equal(got, w) {
			t.Errorf("%s: Tick %d: %v, not %v", what, i+1, got, w)
		}
	}
}

func answers(t *testing.T, what string, got, want api.Errno) {
	t.Helper()
	if got != want {
		t.Errorf("P201: %s: %v, not %v", what, got, want)
	}
}

func TestNobodyThere(t *testing.T) {
	x := made(t)
	tells(t, "P201: new", x)
	ticks(t, "P201: new", x, nil, nil, nil)
	tells(t, "P201: behind Ticks of none", x)
	answers(t, "Cancel of none", x.Cancel(0), api.ErrEmpty)
	tells(t, "P201: twin of none", x.Twin())
	put(t, x, one{0, 1}, one{1, 1})
	answers(t, "Cancel", x.Cancel(1), api.OK)
	ticks(t, "P201: the last one", x, []int{0}, nil)
	tells(t, "P201: none any more", x)
}

func TestNewTimersShareNothing(t *testing.T) {
	x, y := made(t), made(t)
	put(t, x, one{1, 2})
	x.Tick()
	tells(t, "P7: the one that was changed", x, one{1, 1})
	tells(t, "P7: the other", y)
}

func TestPutTakesIDs0To255(t *testing.T) {
	for _, id := range []int{math.MinInt, math.MinInt32, -256, -2, -1, 256, 257, 511, 512, 1 << 32, 1<<32 + 1, math.MaxInt} {
		x := made(t, one{1, 9})
		answers(t, "Put of no id", x.Put(id, 1), api.ErrArg)
		if n, ok := x.Left(id); n != 0 || ok {
			t.Errorf("P201: Left(%d): %d, %v", id, n, ok)
		}
		answers(t, "Cancel of no id", x.Cancel(id), api.ErrEmpty)
		tells(t, "P5: no id", x, one{1, 9})
		ticks(t, "P5: no id", x, nil)
	}
	x := made(t)
	for _, id := range []int{255, 0, 254, 1, 128} {
		answers(t, "Put of an id", x.Put(id, 1), api.OK)
	}
	tells(t, "P201: first and last", x, one{0, 1}, one{1, 1}, one{128, 1}, one{254, 1}, one{255, 1})
	ticks(t, "P201: first and last", x, []int{255, 0, 254, 1, 128})
}

func TestPutTakes1ToMaxTick(t *testing.T) {
	for _, in := range []int64{math.MinInt64, math.MinInt64 + 1, -1 << 40, -1, 0, 1<<40 + 1, 1 << 41, 1<<62 + 1, math.MaxInt64} {
		x := made(t, one{2, 1})
		answers(t, "Put at no tick", x.Put(3, in), api.ErrArg)
		tells(t, "P5: no tick", x, one{2, 1})
		ticks(t, "P5: no tick", x, []int{2}, nil)
	}
	x := made(t, one{7, api.MaxTick}, one{8, api.MaxTick - 1}, one{9, 1}, one{10, 2}, one{11, 1<<32 + 1})
	tells(t, "P201: least and greatest", x, one{7, 1 << 40}, one{8, 1<<40 - 1}, one{9, 1}, one{10, 2}, one{11, 1<<32 + 1})
	ticks(t, "P201: least", x, []int{9}, []int{10})
	tells(t, "P201: greatest behind Ticks", x, one{7, 1<<40 - 2}, one{8, 1<<40 - 3}, one{11, 1<<32 - 1})
	ticks(t, "P201: greatest", x, nil, nil)
	put(t, x, one{0, api.MaxTick})
	tells(t, "P201: greatest from now", x, one{7, 1<<40 - 4}, one{8, 1<<40 - 5}, one{11, 1<<32 - 3}, one{0, 1 << 40})
}

func TestErrorsInTheirOrder(t *testing.T) {
	x := made(t, one{0, 5}, one{255, 6})
	for _, c := range []struct {
		id   int
		in   int64
		want api.Errno
	}{
		{-1, 0, api.ErrArg}, {256, api.MaxTick + 1, api.ErrArg},
		{0, 0, api.ErrArg}, {0, -5, api.ErrArg}, {255, api.MaxTick + 1, api.ErrArg}, {255, math.MinInt64, api.ErrArg},
		{0, 5, api.ErrTwice}, {0, 1, api.ErrTwice}, {0, api.MaxTick, api.ErrTwice}, {255, 1, api.ErrTwice},
	} {
		if e := x.Put(c.id, c.in); e != c.want {
			t.Errorf("P6: Put(%d, %d): %v, not %v", c.id, c.in, e, c.want)
		}
		tells(t, "P5: refused", x, one{0, 5}, one{255, 6})
	}
}

func TestErrorsChangeNothing(t *testing.T) {
	x := made(t, one{4, 2}, one{1, 2}, one{3, 3})
	wrong := func() {
		answers(t, "Put again", x.Put(4, 1), api.ErrTwice)
		answers(t, "Put again", x.Put(3, 9), api.ErrTwice)
		answers(t, "Put of no id", x.Put(-1, 1), api.ErrArg)
		answers(t, "Put at no tick", x.Put(5, 0), api.ErrArg)
		answers(t, "Cancel of one that is not there", x.Cancel(5), api.ErrEmpty)
		answers(t, "Cancel of no id", x.Cancel(256), api.ErrEmpty)
	}
	wrong()
	tells(t, "P5", x, one{4, 2}, one{1, 2}, one{3, 3})
	ticks(t, "P5", x, nil)
	wrong()
	tells(t, "P5: a Tick later", x, one{4, 1}, one{1, 1}, one{3, 2})
	ticks(t, "P5: their order", x, []int{4, 1}, []int{3}, nil, nil)
}

func TestDueAtTheInthTick(t *testing.T) {
	for in := int64(1); in <= 40; in++ {
		x := made(t, one{9, in})
		for left := in; left > 1; left-- {
			tells(t, "P201: on its way", x, one{9, left})
			ticks(t, "P201: too early", x, nil)
		}
		tells(t, "P201: the next one", x, one{9, 1})
		ticks(t, "P201: due, and once", x, []int{9}, nil, nil)
		tells(t, "P201: not there any more", x)
	}
}

func TestDueTogetherInTheOrderOfPut(t *testing.T) {
	x := made(t, one{200, 3}, one{5, 3}, one{90, 2}, one{100, 3}, one{6, 3})
	tells(t, "P201: Left", x, one{200, 3}, one{5, 3}, one{90, 2}, one{100, 3}, one{6, 3})
	ticks(t, "P201: none yet", x, nil)
	put(t, x, one{0, 2}, one{255, 1})
	tells(t, "P201: Left, 1 on", x, one{200, 2}, one{5, 2}, one{90, 1}, one{100, 2}, one{6, 2}, one{0, 2}, one{255, 1})
	ticks(t, "P201: two of two Ticks", x, []int{90, 255})
	put(t, x, one{3, 1})
	tells(t, "P201: Left, 2 on", x, one{200, 1}, one{5, 1}, one{100, 1}, one{6, 1}, one{0, 1}, one{3, 1})
	ticks(t, "P201: all at once", x, []int{200, 5, 100, 6, 0, 3}, nil)
	tells(t, "P201: none left", x)
}

func TestAllAtOnce(t *testing.T) {
	x := made(t)
	var want []int
	for i := range 256 {
		id := i * 37 % 256
		put(t, x, one{id, 2})
		want = append(want, id)
	}
	for id := range 256 {
		answers(t, "Put of one more", x.Put(id, 2), api.ErrTwice)
	}
	if x.Len() != 256 {
		t.Errorf("P201: Len: %d", x.Len())
	}
	ticks(t, "P201: all ids", x, nil, want, nil)
	tells(t, "P201: all gone", x)
}

func TestPutAgainBehindDue(t *testing.T) {
	x := made(t, one{1, 1}, one{2, 3})
	ticks(t, "P201: due", x, []int{1})
	answers(t, "Cancel of one that was due", x.Cancel(1), api.ErrEmpty)
	answers(t, "Put again", x.Put(1, 2), api.OK)
	tells(t, "P201: there again", x, one{1, 2}, one{2, 2})
	ticks(t, "P201: behind the other now", x, nil, []int{2, 1}, nil)
}

func TestPutAgainBehindCancel(t *testing.T) {
	x := made(t, one{1, 2}, one{2, 2}, one{3, 2})
	answers(t, "Cancel", x.Cancel(1), api.OK)
	tells(t, "P201: cancelled", x, one{2, 2}, one{3, 2})
	answers(t, "Cancel again", x.Cancel(1), api.ErrEmpty)
	answers(t, "Put again", x.Put(1, 2), api.OK)
	tells(t, "P201: there again", x, one{1, 2}, one{2, 2}, one{3, 2})
	ticks(t, "P201: behind the others now", x, nil, []int{2, 3, 1})
	put(t, x, one{1, 5})
	answers(t, "Cancel", x.Cancel(1), api.OK)
	put(t, x, one{1, 1})
	ticks(t, "P201: at its new Tick alone", x, []int{1}, nil, nil, nil, nil, nil)
}

func TestCancelLeavesTheOthers(t *testing.T) {
	all := []one{{5, 2}, {3, 2}, {8, 2}, {1, 1}}
	for i, gone := range all {
		x := made(t, all...)
		rest := slices.Delete(slices.Clone(all), i, i+1)
		answers(t, "Cancel", x.Cancel(gone.id), api.OK)
		tells(t, "P201: one cancelled", x, rest...)
		due := make([][]int, 3)
		for _, o := range rest {
			due[o.in-1] = append(due[o.in-1], o.id)
		}
		ticks(t, "P201: one cancelled", x, due...)
	}
}

func TestTickIsNewMemory(t *testing.T) {
	x := made(t, one{1, 1}, one{2, 1}, one{3, 1}, one{4, 2}, one{5, 2}, one{6, 3})
	got := x.Tick()
	whole := got[:cap(got)]
	for i := range whole {
		whole[i] = 77
	}
	_ = append(got, 78)
	tells(t, "P2: an answer that was written over", x, one{4, 1}, one{5, 1}, one{6, 2})
	next := x.Tick()
	put(t, x, one{9, 1}, one{10, 1}, one{11, 1})
	last := x.Tick()
	if !slices.Equal(next, []int{4, 5}) || !slices.Equal(last, []int{6, 9, 10, 11}) {
		t.Errorf("P2: answers of before: %v, %v", next, last)
	}
}

func TestTwinAndItselfStandAlone(t *testing.T) {
	all := []one{{7, 1}, {2, 2}, {9, 2}}
	changes := map[string]struct {
		do   func(x *timer.Timer)
		want []one
		due  [][]int
	}{
		"Put":    {func(x *timer.Timer) { put(t, x, one{0, 1}) }, []one{{7, 1}, {2, 2}, {9, 2}, {0, 1}}, [][]int{{7, 0}, {2, 9}, nil}},
		"Cancel": {func(x *timer.Timer) { x.Cancel(7) }, []one{{2, 2}, {9, 2}}, [][]int{nil, {2, 9}, nil}},
		"Tick":   {func(x *timer.Timer) { x.Tick() }, []one{{2, 1}, {9, 1}}, [][]int{{2, 9}, nil}},
	}
	for name, c := range changes {
		for _, turned := range []bool{false, true} {
			x := made(t, all...)
			y := x.Twin()
			if x == y {
				t.Fatal("P10: a twin that is no other one")
			}
			tells(t, "P10: the twin at first", y, all...)
			if turned {
				x, y = y, x
			}
			c.do(x)
			tells(t, "P10: the one after "+name, x, c.want...)
			tells(t, "P10: the other after "+name, y, all...)
			ticks(t, "P10: the one after "+name, x, c.due...)
			ticks(t, "P10: the other after "+name, y, []int{7}, []int{2, 9}, nil)
		}
	}
}

func TestTwinsPutApart(t *testing.T) {
	x := made(t, one{1, 1}, one{2, 1}, one{3, 1})
	y := x.Twin()
	z := y.Twin()
	put(t, x, one{4, 1})
	put(t, y, one{5, 1})
	put(t, z, one{6, 1})
	answers(t, "Put again into a twin", y.Put(1, 1), api.ErrTwice)
	ticks(t, "P10: itself", x, []int{1, 2, 3, 4})
	ticks(t, "P10: the twin", y, []int{1, 2, 3, 5})
	ticks(t, "P10: the twin's twin", z, []int{1, 2, 3, 6})
}

func TestTimerThatNobodyMade(t *testing.T) {
	var x timer.Timer
	tells(t, "P1: no New", &x)
	ticks(t, "P1: no New", &x, nil)
	answers(t, "Cancel", x.Cancel(0), api.ErrEmpty)
	tells(t, "P1: its twin", x.Twin())
}

// model is the promise put plainly: who was put, in that order, and the count
// of the Tick at which each is due.
type model struct {
	now   int64
	there []one
}

func (m *model) place(id int) int {
	return slices.IndexFunc(m.there, func(o one) bool { return o.id == id })
}

func (m *model) put(id int, in int64) api.Errno {
	switch {
	case id < 0 || id > 255 || in < 1 || in > 1<<40:
		return api.ErrArg
	case m.place(id) >= 0:
		return api.ErrTwice
	}
	m.there = append(m.there, one{id, m.now + in})
	return api.OK
}

func (m *model) cancel(id int) api.Errno {
	i := m.place(id)
	if i < 0 {
		return api.ErrEmpty
	}
	m.there = slices.Delete(m.there, i, i+1)
	return api.OK
}

func (m *model) tick() []int {
	m.now++
	var due []int
	for _, o := range m.there {
		if o.in == m.now {
			due = append(due, o.id)
		}
	}
	m.there = slices.DeleteFunc(m.there, func(o one) bool { return o.in == m.now })
	return due
}

func (m *model) left() []one {
	var all []one
	for _, o := range m.there {
		all = append(all, one{o.id, o.in - m.now})
	}
	return all
}

// numbers is a row that is the same on every run.
type numbers uint64

func (n *numbers) below(most int) int {
	*n = *n*6364136223846793005 + 1442695040888963407
	return int(uint64(*n) >> 33 % uint64(most))
}

func TestManyCallsAgainstTheModel(t *testing.T) {
	for _, ids := range []int{1, 3, 20, 256} {
		x, m, n := made(t), &model{}, numbers(ids)
		twin, before := x.Twin(), []one(nil)
		for step := range 4000 {
			id, in := n.below(ids+2)-1, int64(n.below(12))
			if n.below(9) == 0 {
				in += api.MaxTick - 5
			}
			switch n.below(5) {
			case 0, 1, 2:
				answers(t, "Put", x.Put(id, in), m.put(id, in))
			case 3:
				answers(t, "Cancel", x.Cancel(id), m.cancel(id))
			default:
				ticks(t, "P201: against the model", x, m.tick())
			}
			if step%5 == 0 {
				tells(t, "P201: against the model", x, m.left()...)
				tells(t, "P10: the twin of before", twin, before...)
				twin, before = x.Twin(), m.left()
			}
			if t.Failed() {
				t.Fatalf("%d ids, step %d", ids, step)
			}
		}
	}
}

func TestTheSameCallsAnswerTheSame(t *testing.T) {
	run := func() []int {
		x, n := made(t), numbers(5)
		var out []int
		for range 800 {
			out = append(out, int(x.Put(n.below(64), int64(n.below(9)))), int(x.Cancel(n.below(64))))
			out = append(out, x.Tick()...)
			out = append(out, -1, x.Len())
		}
		return out
	}
	if !slices.Equal(run(), run()) {
		t.Error("P3: the same calls answered otherwise")
	}
}
