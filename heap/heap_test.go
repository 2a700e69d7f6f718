package heap_test

import (
	"math"
	"slices"
	"testing"

	"watchbill/api"
	"watchbill/heap"
)

type one struct {
	id   int
	prio int
	seq  int64
}

func made(t *testing.T, most int, all ...one) *heap.Heap {
	t.Helper()
	h, e := heap.New(most)
	if e != api.OK || h == nil {
		t.Fatalf("P101: New(%d): %v", most, e)
	}
	for _, x := range all {
		if e := h.Put(x.id, x.prio, x.seq); e != api.OK {
			t.Fatalf("P101: Put(%v): %v", x, e)
		}
	}
	return h
}

// tells holds all that h tells against the order that it must have.
func tells(t *testing.T, what string, h *heap.Heap, most int, want ...int) {
	t.Helper()
	if got := h.Order(); !slices.Equal(got, want) {
		t.Errorf("%s: Order: %v, not %v", what, got, want)
	}
	if h.Len() != len(want) {
		t.Errorf("%s: Len: %d, not %d", what, h.Len(), len(want))
	}
	first := 0
	if len(want) > 0 {
		first = want[0]
	}
	if id, ok := h.Top(); id != first || ok != (len(want) > 0) {
		t.Errorf("%s: Top: %d, %v, not %d", what, id, ok, first)
	}
	for id := -2; id < most+2; id++ {
		if h.Has(id) != slices.Contains(want, id) {
			t.Errorf("%s: Has(%d): %v", what, id, h.Has(id))
		}
	}
}

func refused(t *testing.T, what string, got, want api.Errno) {
	t.Helper()
	if got != want {
		t.Errorf("P101: %s: %v, not %v", what, got, want)
	}
}

// drained lets all out, always the one that Top tells.
func drained(t *testing.T, h *heap.Heap) []int {
	t.Helper()
	var out []int
	for h.Len() > 0 {
		id, ok := h.Top()
		if !ok {
			t.Fatalf("P101: Top: false of %d", h.Len())
		}
		if e := h.Remove(id); e != api.OK {
			t.Fatalf("P101: Remove(%d): %v", id, e)
		}
		out = append(out, id)
	}
	return out
}

func TestNewTakesOneTo256(t *testing.T) {
	for _, c := range []struct {
		most int
		want api.Errno
	}{
		{math.MinInt, api.ErrArg}, {-1, api.ErrArg}, {0, api.ErrArg},
		{1, api.OK}, {2, api.OK}, {255, api.OK}, {256, api.OK},
		{257, api.ErrArg}, {1 << 32, api.ErrArg}, {1<<32 + 1, api.ErrArg}, {math.MaxInt, api.ErrArg},
	} {
		h, e := heap.New(c.most)
		if e != c.want {
			t.Errorf("P101: New(%d): %v, not %v", c.most, e, c.want)
		}
		if (h != nil) != (c.want == api.OK) {
			t.Errorf("P4: New(%d): an object beside %v: %v", c.most, e, h != nil)
		}
	}
}

func TestNewHeapsShareNothing(t *testing.T) {
	g, h := made(t, 3), made(t, 3)
	g.Put(1, 1, 1)
	tells(t, "P7: the one that was changed", g, 3, 1)
	tells(t, "P7: the other", h, 3)
}

func TestNobodyThere(t *testing.T) {
	h := made(t, 3)
	tells(t, "P101: new", h, 3)
	tells(t, "P101: twin of none", h.Twin(), 3)
	h.Put(2, 5, 5)
	h.Remove(2)
	tells(t, "P101: none any more", h, 3)
	refused(t, "Set of none", h.Set(2, 1), api.ErrEmpty)
	refused(t, "Remove of none", h.Remove(2), api.ErrEmpty)
}

func TestFirstAndLastID(t *testing.T) {
	for _, most := range []int{1, 2, 7, 255, 256} {
		h := made(t, most)
		last := most - 1
		for _, id := range []int{math.MinInt, -256, -1, most, most + 1, 1 << 32, math.MaxInt} {
			refused(t, "Put of no id", h.Put(id, 1, 1), api.ErrArg)
			refused(t, "Set of no id", h.Set(id, 1), api.ErrArg)
			refused(t, "Remove of no id", h.Remove(id), api.ErrArg)
			if h.Has(id) {
				t.Errorf("P101: Has(%d) of %d", id, most)
			}
		}
		tells(t, "P5: no id", h, most)
		refused(t, "Put of the last", h.Put(last, 1, 1), api.OK)
		tells(t, "P101: the last", h, most, last)
		if last > 0 {
			refused(t, "Put of the first", h.Put(0, 1, 1), api.OK)
			tells(t, "P101: the first, too", h, most, 0, last)
			refused(t, "Remove of the first", h.Remove(0), api.OK)
		}
		refused(t, "Set of the last", h.Set(last, 2), api.OK)
		refused(t, "Remove of the last", h.Remove(last), api.OK)
		tells(t, "P101: none any more", h, most)
	}
}

func TestErrorsChangeNothing(t *testing.T) {
	all := []one{{0, 3, 9}, {2, 3, 4}, {3, 7, 1}, {5, -2, 0}}
	h := made(t, 6, all...)
	for _, id := range []int{-1, 6} {
		refused(t, "Put of no id", h.Put(id, 9, 9), api.ErrArg)
		refused(t, "Set of no id", h.Set(id, 9), api.ErrArg)
		refused(t, "Remove of no id", h.Remove(id), api.ErrArg)
		tells(t, "P5: no id", h, 6, 3, 2, 0, 5)
	}
	for _, x := range all {
		refused(t, "Put again", h.Put(x.id, 100, -100), api.ErrTwice)
		refused(t, "Put again as it is", h.Put(x.id, x.prio, x.seq), api.ErrTwice)
		tells(t, "P5: twice", h, 6, 3, 2, 0, 5)
	}
	for _, id := range []int{1, 4} {
		refused(t, "Set of one that is not there", h.Set(id, 100), api.ErrEmpty)
		refused(t, "Remove of one that is not there", h.Remove(id), api.ErrEmpty)
		tells(t, "P5: not there", h, 6, 3, 2, 0, 5)
	}
	// With the prio of another, a seq that a refused Put had left behind would be seen.
	h.Set(0, 7)
	h.Set(2, 7)
	h.Set(5, 7)
	tells(t, "P5: the seqs", h, 6, 5, 3, 2, 0)
	// A refused Set leaves no prio behind for one that comes later.
	refused(t, "Put of 1", h.Put(1, 0, 0), api.OK)
	tells(t, "P5: the prios", h, 6, 5, 3, 2, 0, 1)
}

func TestGreatestPrioGoesFirst(t *testing.T) {
	h := made(t, 8, one{4, 2, 1}, one{1, 9, 9}, one{6, -3, 0}, one{0, 0, 5}, one{7, 5, 2})
	tells(t, "P101: prios", h, 8, 1, 7, 4, 0, 6)
}

func TestOfLikePriosLeastSeq(t *testing.T) {
	h := made(t, 8, one{0, 4, 30}, one{1, 4, 10}, one{2, 4, -20}, one{3, 4, 20}, one{4, 5, 99})
	tells(t, "P101: like prios", h, 8, 4, 2, 1, 3, 0)
}

func TestOfLikeSeqsLeastID(t *testing.T) {
	ids := []int{3, 7, 0, 5, 1, 6, 2, 4}
	h := made(t, 8)
	for _, id := range ids {
		h.Put(id, -1, -1)
	}
	tells(t, "P101: like seqs", h, 8, 0, 1, 2, 3, 4, 5, 6, 7)
	// A like seq counts only among like prios.
	h.Set(6, 0)
	h.Set(1, -2)
	tells(t, "P101: like seqs, other prios", h, 8, 6, 0, 2, 3, 4, 5, 7, 1)
}

func TestLeastAndGreatestNumbers(t *testing.T) {
	h := made(t, 9,
		one{0, math.MinInt, math.MaxInt64}, one{1, math.MinInt, math.MinInt64}, one{2, math.MinInt, 0},
		one{3, math.MaxInt, math.MaxInt64}, one{4, math.MaxInt, math.MinInt64}, one{5, math.MaxInt, 0},
		one{6, 0, math.MaxInt64}, one{7, 0, math.MinInt64}, one{8, 0, 0})
	tells(t, "P101: least and greatest", h, 9, 4, 5, 3, 7, 8, 6, 1, 2, 0)
	h.Set(4, math.MinInt)
	h.Set(0, math.MaxInt)
	tells(t, "P101: turned round", h, 9, 5, 0, 3, 7, 8, 6, 1, 4, 2)
	// Numbers that differ beyond 32 bits alone.
	g := made(t, 4, one{0, 1, 1 << 32}, one{1, 1, 0}, one{2, 1 << 32, 7}, one{3, 0, 7})
	tells(t, "P101: beyond 32 bits", g, 4, 2, 1, 0, 3)
}

func TestSetKeepsSeq(t *testing.T) {
	h := made(t, 4, one{0, 1, 8}, one{1, 1, 2}, one{2, 6, 5})
	h.Set(2, 1)
	tells(t, "P101: down among like prios", h, 4, 1, 2, 0)
	h.Set(2, -50)
	h.Set(2, 50)
	h.Set(2, 1)
	tells(t, "P101: there and back", h, 4, 1, 2, 0)
	h.Set(1, 1)
	tells(t, "P101: with the prio it has", h, 4, 1, 2, 0)
}

func TestPutAgainBehindRemove(t *testing.T) {
	h := made(t, 3, one{0, 5, 1}, one{1, 5, 2}, one{2, 5, 3})
	h.Remove(0)
	tells(t, "P101: gone", h, 3, 1, 2)
	refused(t, "Put again", h.Put(0, 5, 9), api.OK)
	tells(t, "P101: there again, with its new seq", h, 3, 1, 2, 0)
}

func TestFullHeap(t *testing.T) {
	h := made(t, 256)
	var want []int
	for id := range 256 {
		refused(t, "Put", h.Put(id, id, 0), api.OK)
		want = append(want, 255-id)
	}
	tells(t, "P101: all ids", h, 256, want...)
	for id := range 256 {
		refused(t, "Put of one more", h.Put(id, 0, 0), api.ErrTwice)
	}
	if got := drained(t, h); !slices.Equal(got, want) {
		t.Errorf("P101: one by one: %v", got)
	}
}

func TestOrderIsNewMemory(t *testing.T) {
	h := made(t, 4, one{0, 1, 1}, one{1, 2, 1}, one{2, 3, 1})
	got, other := h.Order(), h.Order()
	whole := got[:cap(got)]
	for i := range whole {
		whole[i] = 77
	}
	_ = append(got, 78)
	if !slices.Equal(other, []int{2, 1, 0}) {
		t.Errorf("P2: another answer: %v", other)
	}
	tells(t, "P2: an answer that was written over", h, 4, 2, 1, 0)
	h.Remove(2)
	h.Put(3, 9, 9)
	if !slices.Equal(other, []int{2, 1, 0}) {
		t.Errorf("P2: an answer of before: %v", other)
	}
}

func TestTwinAndItselfStandAlone(t *testing.T) {
	all := []one{{0, 4, 1}, {1, 4, 2}, {2, 4, 3}, {3, 4, 4}}
	changes := map[string]struct {
		do   func(h *heap.Heap) api.Errno
		want []int
	}{
		"Put":    {func(h *heap.Heap) api.Errno { return h.Put(4, 9, 0) }, []int{4, 0, 1, 2, 3}},
		"Set":    {func(h *heap.Heap) api.Errno { return h.Set(3, 9) }, []int{3, 0, 1, 2}},
		"Remove": {func(h *heap.Heap) api.Errno { return h.Remove(0) }, []int{1, 2, 3}},
	}
	for name, c := range changes {
		h := made(t, 6, all...)
		w := h.Twin()
		tells(t, "P10: the twin at first", w, 6, 0, 1, 2, 3)
		refused(t, name, c.do(h), api.OK)
		tells(t, "P10: itself after "+name, h, 6, c.want...)
		tells(t, "P10: the twin after "+name+" of itself", w, 6, 0, 1, 2, 3)

		h = made(t, 6, all...)
		w = h.Twin()
		refused(t, name, c.do(w), api.OK)
		tells(t, "P10: the twin after "+name, w, 6, c.want...)
		tells(t, "P10: itself after "+name+" of the twin", h, 6, 0, 1, 2, 3)
	}
}

func TestTwinsPutApart(t *testing.T) {
	h := made(t, 8, one{0, 4, 1}, one{1, 4, 2}, one{2, 4, 3})
	w := h.Twin()
	v := w.Twin()
	h.Put(5, 1, 1)
	w.Put(6, 1, 1)
	v.Put(7, 1, 1)
	tells(t, "P10: itself", h, 8, 0, 1, 2, 5)
	tells(t, "P10: the twin", w, 8, 0, 1, 2, 6)
	tells(t, "P10: the twin's twin", v, 8, 0, 1, 2, 7)
}

func TestTwinKeepsIDsAndSeqs(t *testing.T) {
	w := made(t, 5, one{1, 4, 9}, one{2, 3, 1}).Twin()
	refused(t, "Put of the last", w.Put(4, 0, 0), api.OK)
	refused(t, "Put beyond the last", w.Put(5, 0, 0), api.ErrArg)
	refused(t, "Put again", w.Put(1, 0, 0), api.ErrTwice)
	refused(t, "Set", w.Set(2, 4), api.OK)
	tells(t, "P10: the seqs", w, 5, 2, 1, 4)
}

func TestHeapThatNobodyMade(t *testing.T) {
	var h heap.Heap
	refused(t, "Put", h.Put(0, 1, 1), api.ErrArg)
	refused(t, "Set", h.Set(0, 1), api.ErrArg)
	refused(t, "Remove", h.Remove(0), api.ErrArg)
	tells(t, "P1: no New", &h, 0)
	tells(t, "P1: its twin", h.Twin(), 0)
}

// model is the promise put plainly: who is there in a list, told by a sort.
type model struct {
	most  int
	there []one
}

func (m *model) place(id int) int {
	return slices.IndexFunc(m.there, func(x one) bool { return x.id == id })
}

func (m *model) put(x one) api.Errno {
	switch {
	case x.id < 0 || x.id >= m.most:
		return api.ErrArg
	case m.place(x.id) >= 0:
		return api.ErrTwice
	}
	m.there = append(m.there, x)
	return api.OK
}

func (m *model) set(id, prio int) api.Errno {
	i := m.place(id)
	switch {
	case id < 0 || id >= m.most:
		return api.ErrArg
	case i < 0:
		return api.ErrEmpty
	}
	m.there[i].prio = prio
	return api.OK
}

func (m *model) remove(id int) api.Errno {
	i := m.place(id)
	switch {
	case id < 0 || id >= m.most:
		return api.ErrArg
	case i < 0:
		return api.ErrEmpty
	}
	m.there = slices.Delete(m.there, i, i+1)
	return api.OK
}

func (m *model) order() []int {
	all := slices.Clone(m.there)
	slices.SortFunc(all, func(x, y one) int {
		switch {
		case x.prio > y.prio || x.prio == y.prio && (x.seq < y.seq || x.seq == y.seq && x.id < y.id):
			return -1
		case x == y:
			return 0
		}
		return 1
	})
	var out []int
	for _, x := range all {
		out = append(out, x.id)
	}
	return out
}

// numbers is a row that is the same on every run.
type numbers uint64

func (n *numbers) below(most int) int {
	*n = *n*6364136223846793005 + 1442695040888963407
	return int(uint64(*n) >> 33 % uint64(most))
}

func TestManyCallsAgainstTheModel(t *testing.T) {
	for _, most := range []int{1, 2, 3, 8, 31, 256} {
		h, m, n := made(t, most), &model{most: most}, numbers(most)
		twin, before := h.Twin(), []int(nil)
		for step := range 3000 {
			id, prio, seq := n.below(most+2)-1, n.below(7)-3, int64(n.below(5)-2)
			var got, want api.Errno
			switch n.below(5) {
			case 0, 1:
				got, want = h.Put(id, prio, seq), m.put(one{id, prio, seq})
			case 2, 3:
				got, want = h.Set(id, prio), m.set(id, prio)
			default:
				got, want = h.Remove(id), m.remove(id)
			}
			if got != want {
				t.Fatalf("P101: %d ids, step %d: %v, not %v", most, step, got, want)
			}
			if step%10 == 0 {
				tells(t, "P101: against the model", h, most, m.order()...)
				tells(t, "P10: the twin of before", twin, most, before...)
				twin, before = h.Twin(), m.order()
			}
			if t.Failed() {
				t.Fatalf("%d ids, step %d", most, step)
			}
		}
		want := m.order()
		if got := drained(t, h); !slices.Equal(got, want) {
			t.Errorf("P101: %d ids, one by one: %v, not %v", most, got, want)
		}
	}
}

func TestTheSameCallsAnswerTheSame(t *testing.T) {
	run := func() []int {
		h, n := made(t, 64), numbers(5)
		var out []int
		for range 500 {
			out = append(out, int(h.Put(n.below(64), n.below(3), int64(n.below(3)))))
			out = append(out, int(h.Remove(n.below(64))), int(h.Set(n.below(64), n.below(3))))
			out = append(out, h.Order()...)
		}
		return out
	}
	if !slices.Equal(run(), run()) {
		t.Error("P3: the same calls answered otherwise")
	}
}
