package ring_test

import (
	"math"
	"slices"
	"testing"

	"watchbill/api"
	"watchbill/ring"
)

func made(t *testing.T, room int, all ...int64) *ring.Ring {
	t.Helper()
	r, e := ring.New(room)
	if r == nil || e != api.OK {
		t.Fatalf("P301: New(%d): %v, %v", room, r, e)
	}
	push(t, r, all...)
	return r
}

func push(t *testing.T, r *ring.Ring, all ...int64) {
	t.Helper()
	for _, v := range all {
		if !r.Push(v) {
			t.Fatalf("P301: Push(%d): no room", v)
		}
	}
}

// tells holds all that r tells without a change against those that must be
// there, of so many that may be.
func tells(t *testing.T, what string, r *ring.Ring, room int, want ...int64) {
	t.Helper()
	if r.Len() != len(want) {
		t.Errorf("%s: Len: %d, not %d", what, r.Len(), len(want))
	}
	if r.Room() != room-len(want) {
		t.Errorf("%s: Room: %d, not %d", what, r.Room(), room-len(want))
	}
	for range 2 {
		if got := r.All(); !slices.Equal(got, want) {
			t.Errorf("%s: All: %v, not %v", what, got, want)
		}
	}
	if r.Len() != len(want) || r.Room() != room-len(want) {
		t.Errorf("%s: behind All: Len %d, Room %d", what, r.Len(), r.Room())
	}
}

func pops(t *testing.T, what string, r *ring.Ring, want ...int64) {
	t.Helper()
	for i, w := range want {
		if v, ok := r.Pop(); v != w || !ok {
			t.Errorf("%s: Pop %d: %d, %v, not %d, true", what, i+1, v, ok, w)
		}
	}
}

func popsNone(t *testing.T, what string, r *ring.Ring) {
	t.Helper()
	if v, ok := r.Pop(); v != 0 || ok {
		t.Errorf("%s: Pop of none: %d, %v", what, v, ok)
	}
}

func pushesNone(t *testing.T, what string, r *ring.Ring, v int64) {
	t.Helper()
	if r.Push(v) {
		t.Errorf("%s: Push(%d): true without room", what, v)
	}
}

// counted is n values from first on, one greater each.
func counted(first int64, n int) []int64 {
	var all []int64
	for i := range n {
		all = append(all, first+int64(i))
	}
	return all
}

func TestNewTakesRoom0ToMaxRoom(t *testing.T) {
	for _, room := range []int{math.MinInt, math.MinInt64 + 1, math.MinInt32, -17, -16, -2, -1, 17, 18, 32, 256, 1 << 31, 1 << 32, 1<<32 + 1, math.MaxInt} {
		if r, e := ring.New(room); r != nil || e != api.ErrArg {
			t.Errorf("P301, P4: New(%d): %v, %v, not nothing and ErrArg", room, r, e)
		}
	}
	for room := range 17 {
		tells(t, "P301: new", made(t, room), room)
	}
	if api.MaxRoom != 16 {
		t.Errorf("P301: MaxRoom: %d", api.MaxRoom)
	}
}

func TestNewRingsShareNothing(t *testing.T) {
	r, other := made(t, 2), made(t, 2)
	push(t, r, 5)
	tells(t, "P7: the one that was changed", r, 2, 5)
	tells(t, "P7: the other", other, 2)
	popsNone(t, "P7: the other", other)
}

func TestRoom0(t *testing.T) {
	r := made(t, 0)
	for _, v := range []int64{0, 1, -1, math.MinInt64, math.MaxInt64} {
		pushesNone(t, "P301: room 0", r, v)
		tells(t, "P5: room 0", r, 0)
		popsNone(t, "P301: room 0", r)
		tells(t, "P5: room 0", r, 0)
	}
	tells(t, "P10: twin of room 0", r.Twin(), 0)
	pushesNone(t, "P10: twin of room 0", r.Twin(), 1)
}

func TestRoom1(t *testing.T) {
	r := made(t, 1)
	for v := int64(-3); v < 4; v++ {
		popsNone(t, "P301: room 1", r)
		push(t, r, v)
		tells(t, "P301: room 1, one there", r, 1, v)
		pushesNone(t, "P301: room 1", r, v+1)
		tells(t, "P5: room 1, one more", r, 1, v)
		pops(t, "P301: room 1", r, v)
		tells(t, "P301: room 1, none there", r, 1)
	}
}

func TestNobodyThere(t *testing.T) {
	r := made(t, 3)
	for range 5 {
		popsNone(t, "P301: new", r)
		tells(t, "P5: Pop of none", r, 3)
	}
	tells(t, "P10: twin of none", r.Twin(), 3)
	push(t, r, 1, 2)
	pops(t, "P301: all of them", r, 1, 2)
	popsNone(t, "P301: none any more", r)
	tells(t, "P5: none any more", r, 3)
	push(t, r, 3, 4, 5)
	tells(t, "P301: as many as ever", r, 3, 3, 4, 5)
}

func TestLeastAndGreatestValues(t *testing.T) {
	all := []int64{math.MaxInt64, math.MinInt64, 0, -1, math.MinInt64 + 1, math.MaxInt64 - 1, 1 << 32, 1<<53 + 1, math.MaxInt64, 0}
	r := made(t, 10, all...)
	tells(t, "P301: least and greatest", r, 10, all...)
	tells(t, "P10: least and greatest", r.Twin(), 10, all...)
	pops(t, "P301: least and greatest", r, all...)
	popsNone(t, "P301: least and greatest", r)
}

func TestOneValueManyTimes(t *testing.T) {
	r := made(t, 4, 0, 0, 7, 7)
	pushesNone(t, "P301: one of those that are there", r, 7)
	tells(t, "P301: the same ones", r, 4, 0, 0, 7, 7)
	pops(t, "P301: a 0 that is there", r, 0, 0)
	tells(t, "P301: the same ones, two gone", r, 4, 7, 7)
}

func TestAsManyAsThereIsRoom(t *testing.T) {
	for room := range 17 {
		r, all := made(t, room), counted(100, room)
		for i, v := range all {
			push(t, r, v)
			tells(t, "P301: on the way in", r, room, all[:i+1]...)
		}
		for v := range int64(3) {
			pushesNone(t, "P301: one more", r, v)
			tells(t, "P5: one more", r, room, all...)
		}
		for i, v := range all {
			pops(t, "P301: on the way out", r, v)
			tells(t, "P301: on the way out", r, room, all[i+1:]...)
		}
		popsNone(t, "P301: one more out", r)
		tells(t, "P5: one more out", r, room)
	}
}

func TestRoundAndRound(t *testing.T) {
	for room := 1; room <= 16; room++ {
		for there := range room {
			first := int64(1)
			r := made(t, room, counted(first, there)...)
			for range 3*room + 1 {
				push(t, r, first+int64(there))
				tells(t, "P301: round, one in", r, room, counted(first, there+1)...)
				pops(t, "P301: round, one out", r, first)
				first++
				tells(t, "P301: round, one out", r, room, counted(first, there)...)
			}
		}
	}
}

func TestRoundAndRoundWithoutRoom(t *testing.T) {
	for room := 1; room <= 16; room++ {
		r := made(t, room, counted(0, room)...)
		for first := range int64(3*room + 1) {
			pushesNone(t, "P301: round, no room", r, -1)
			pops(t, "P301: round, one out", r, first)
			tells(t, "P301: round, one out", r, room, counted(first+1, room-1)...)
			push(t, r, first+int64(room))
			tells(t, "P301: round, one in", r, room, counted(first+1, room)...)
		}
	}
}

func TestAllIsNewMemory(t *testing.T) {
	for _, gone := range []int{0, 1, 3} {
		r := made(t, 5, counted(1, 5)...)
		for range gone {
			r.Pop()
		}
		want := counted(int64(gone+1), 5-gone)
		got := r.All()
		whole := got[:cap(got)]
		for i := range whole {
			whole[i] = 77
		}
		_ = append(got[:1], 78)
		tells(t, "P2: an answer that was written over", r, 5, want...)
		before := r.All()
		pops(t, "P2: an answer that was written over", r, want...)
		push(t, r, 91, 92, 93, 94, 95)
		if !slices.Equal(before, want) {
			t.Errorf("P2: an answer of before: %v, not %v", before, want)
		}
	}
}

func TestTwoAnswersOfAllShareNothing(t *testing.T) {
	r := made(t, 3, 1, 2, 3)
	one, other := r.All(), r.All()
	one[0], one[2] = 8, 9
	if !slices.Equal(other, []int64{1, 2, 3}) {
		t.Errorf("P2: the other answer: %v", other)
	}
}

func TestTwinAndItselfStandAlone(t *testing.T) {
	changes := map[string]struct {
		do   func(r *ring.Ring)
		want []int64
	}{
		"Push":         {func(r *ring.Ring) { push(t, r, 9) }, []int64{4, 5, 6, 9}},
		"Pop":          {func(r *ring.Ring) { pops(t, "P10", r, 4) }, []int64{5, 6}},
		"Pop and Push": {func(r *ring.Ring) { pops(t, "P10", r, 4); push(t, r, 8) }, []int64{5, 6, 8}},
		"Pop of all":   {func(r *ring.Ring) { pops(t, "P10", r, 4, 5, 6); popsNone(t, "P10", r) }, nil},
		"All":          {func(r *ring.Ring) { r.All()[0] = 3 }, []int64{4, 5, 6}},
	}
	for name, c := range changes {
		for _, turned := range []bool{false, true} {
			one := made(t, 4, 1, 2, 3, 4)
			pops(t, "P10: ahead of Twin", one, 1, 2, 3)
			push(t, one, 5, 6)
			other := one.Twin()
			if other == nil || one == other {
				t.Fatal("P10: a twin that is no other one")
			}
			tells(t, "P10: itself behind Twin", one, 4, 4, 5, 6)
			tells(t, "P10: the twin at first", other, 4, 4, 5, 6)
			if turned {
				one, other = other, one
			}
			c.do(one)
			tells(t, "P10: the one after "+name, one, 4, c.want...)
			tells(t, "P10: the other after "+name, other, 4, 4, 5, 6)
			pops(t, "P10: the other after "+name, other, 4, 5, 6)
			popsNone(t, "P10: the other after "+name, other)
			tells(t, "P10: the one after all", one, 4, c.want...)
		}
	}
}

func TestTwinOfEachLength(t *testing.T) {
	for room := range 17 {
		for there := range room + 1 {
			r := made(t, room, counted(7, there)...)
			twin := r.Twin().Twin()
			tells(t, "P10: a twin's twin", twin, room, counted(7, there)...)
			push(t, twin, counted(7+int64(there), room-there)...)
			pushesNone(t, "P10: a twin without room", twin, 1)
			tells(t, "P10: a twin without room", twin, room, counted(7, room)...)
			tells(t, "P10: itself", r, room, counted(7, there)...)
		}
	}
}

func TestRingThatNobodyMade(t *testing.T) {
	var r ring.Ring
	pushesNone(t, "P1: no New", &r, 1)
	popsNone(t, "P1: no New", &r)
	tells(t, "P1: no New", &r, 0)
	tells(t, "P1: its twin", r.Twin(), 0)
}

// model is the promise put plainly.
type model struct {
	room  int
	there []int64
}

func (m *model) push(v int64) bool {
	if len(m.there) == m.room {
		return false
	}
	m.there = append(m.there, v)
	return true
}

func (m *model) pop() (int64, bool) {
	if len(m.there) == 0 {
		return 0, false
	}
	v := m.there[0]
	m.there = m.there[1:]
	return v, true
}

// numbers is a row that is the same on every run.
type numbers uint64

func (n *numbers) below(most int) int {
	*n = *n*6364136223846793005 + 1442695040888963407
	return int(uint64(*n) >> 33 % uint64(most))
}

func TestManyCallsAgainstTheModel(t *testing.T) {
	for room := range 17 {
		r, m, n := made(t, room), &model{room: room}, numbers(room)
		twin, before := r.Twin(), []int64(nil)
		for step := range 3000 {
			// Longer runs of one kind, so that both ends are met with much room.
			if in := n.below(60) < 30+20*(step/40%2*2-1); in {
				v := int64(n) ^ int64(step)
				if got, want := r.Push(v), m.push(v); got != want {
					t.Errorf("P301: Push: %v, not %v", got, want)
				}
			} else {
				v, ok := r.Pop()
				if want, there := m.pop(); v != want || ok != there {
					t.Errorf("P301: Pop: %d, %v, not %d, %v", v, ok, want, there)
				}
			}
			tells(t, "P301: against the model", r, room, m.there...)
			if step%7 == 0 {
				tells(t, "P10: the twin of before", twin, room, before...)
				twin, before = r.Twin(), slices.Clone(m.there)
			}
			if t.Failed() {
				t.Fatalf("room %d, step %d", room, step)
			}
		}
	}
}

func TestTheSameCallsAnswerTheSame(t *testing.T) {
	run := func() []int64 {
		r, n := made(t, 5), numbers(5)
		var out []int64
		for range 800 {
			if n.below(2) == 0 && r.Push(int64(n.below(100))) {
				out = append(out, -1)
			}
			if n.below(2) == 0 {
				v, _ := r.Pop()
				out = append(out, v)
			}
			out = append(out, -2, int64(r.Len()), int64(r.Room()))
			out = append(out, r.All()...)
		}
		return out
	}
	if !slices.Equal(run(), run()) {
		t.Error("P3: the same calls answered otherwise")
	}
}
