package rta_test

import (
	"fmt"
	"math/big"
	"math/rand"
	"slices"
	"strings"
	"testing"

	"watchbill/api"
	"watchbill/block"
	"watchbill/op"
	"watchbill/rta"
	"watchbill/set"
)

// plainNext is the promise in numbers without bounds.
func plainNext(r, own int64, l []rta.Load) (int64, api.Errno) {
	if r < 0 || own < 0 {
		return 0, api.ErrArg
	}
	for _, one := range l {
		if one.Period < 1 || one.Cost < 0 {
			return 0, api.ErrArg
		}
	}
	sum := big.NewInt(own)
	for _, one := range l {
		times, rest := new(big.Int).QuoRem(big.NewInt(r), big.NewInt(one.Period), new(big.Int))
		if rest.Sign() > 0 {
			times.Add(times, big.NewInt(1))
		}
		sum.Add(sum, times.Mul(times, big.NewInt(one.Cost)))
	}
	if !sum.IsInt64() {
		return 0, api.ErrNum
	}
	return sum.Int64(), api.OK
}

// plainFix goes from round to round as the promise tells it.
func plainFix(own int64, l []rta.Load, most int64) (int64, int, api.Errno) {
	if _, e := plainNext(0, own, l); e != api.OK || most < 0 {
		return 0, 0, api.ErrArg
	}
	r := own
	for asked := 1; asked <= api.MaxRounds; asked++ {
		if r > most {
			return 0, 0, api.ErrLate
		}
		next, e := plainNext(r, own, l)
		if e != api.OK {
			return 0, 0, e
		}
		if next == r {
			return r, asked, api.OK
		}
		r = next
	}
	if r > most {
		return 0, 0, api.ErrLate
	}
	return 0, 0, api.ErrCap
}

func holdsNext(t *testing.T, r, own int64, l []rta.Load) api.Errno {
	t.Helper()
	want, e := plainNext(r, own, l)
	if e != api.OK {
		nextFails(t, r, own, l, e)
	} else {
		nextIs(t, r, own, l, want)
	}
	return e
}

func holdsFix(t *testing.T, own int64, l []rta.Load, most int64) api.Errno {
	t.Helper()
	want, asked, e := plainFix(own, l, most)
	if e != api.OK {
		fixFails(t, own, l, most, e)
	} else {
		fixIs(t, own, l, most, want, asked)
	}
	return e
}

// edged is a number of any size, near to a power of 2, near to a bound.
func edged(r *rand.Rand) int64 {
	switch r.Intn(8) {
	case 0:
		return greatest - r.Int63n(3)
	case 1:
		return r.Int63n(4) - 1
	case 2:
		return 1<<r.Intn(63) + r.Int63n(3) - 1
	case 3:
		return r.Int63()
	}
	return r.Int63() >> r.Intn(63)
}

func TestGrownLoads(t *testing.T) {
	r := rand.New(rand.NewSource(12))
	next, fix := map[api.Errno]int{}, map[api.Errno]int{}
	for range 40000 {
		l := make([]rta.Load, r.Intn(5))
		for i := range l {
			l[i] = rta.Load{Period: edged(r), Cost: edged(r)}
		}
		next[holdsNext(t, edged(r), edged(r), l)]++
		fix[holdsFix(t, edged(r), l, edged(r))]++
	}
	for _, e := range []api.Errno{api.OK, api.ErrArg, api.ErrNum} {
		if next[e] < 2000 {
			t.Errorf("only %d times Next told %v", next[e], e)
		}
	}
	for _, e := range []api.Errno{api.OK, api.ErrArg, api.ErrNum, api.ErrLate} {
		if fix[e] < 1000 {
			t.Errorf("only %d times Fix told %v", fix[e], e)
		}
	}
}

// TestFixIsTheLeast: of all r up to most the least that is Next of itself (T5).
func TestFixIsTheLeast(t *testing.T) {
	r := rand.New(rand.NewSource(13))
	told := map[api.Errno]int{}
	for range 5000 {
		l := make([]rta.Load, r.Intn(5))
		for i := range l {
			l[i] = rta.Load{Period: 1 + r.Int63n(40), Cost: r.Int63n(9)}
		}
		own, most := r.Int63n(30), r.Int63n(250)
		told[holdsFix(t, own, l, most)]++
		got, _, e := rta.Fix(own, l, most)
		least := int64(0)
		for next, _ := plainNext(least, own, l); least <= most && next != least; next, _ = plainNext(least, own, l) {
			least++
		}
		if late := least > most; late != (e == api.ErrLate) || !late && got != least {
			t.Errorf("P1201: Fix(%d, %v, %d): %d, %v, the least one is %d", own, l, most, got, e, least)
		}
	}
	if told[api.OK] < 500 || told[api.ErrLate] < 500 {
		t.Errorf("only so often: %v", told)
	}
}

// isAhead tells if task i has a greater priority than task j.
func isAhead(s set.Set, i, j int) bool {
	a, b := s.Tasks[i].Deadline, s.Tasks[j].Deadline
	return a < b || a == b && i < j
}

// cost is what p costs, op by op as it is done.
func cost(p []op.Op) int64 {
	sum, times := int64(0), []int64{1}
	for _, o := range p {
		last := len(times) - 1
		switch o.Kind {
		case op.Run:
			sum += times[last] * o.N
		case op.Loop:
			times = append(times, times[last]*o.N)
		case op.End:
			times = times[:last]
		}
	}
	return sum
}

func need(task set.Task) int64 { return min(cost(task.Prog), task.Budget) }

// ahead is what the tasks ahead of task i ask for.
func ahead(s set.Set, i int) []rta.Load {
	var l []rta.Load
	for j, task := range s.Tasks {
		if isAhead(s, j, i) {
			l = append(l, rta.Load{Period: task.Period, Cost: need(task)})
		}
	}
	return l
}

// day is when task i is done, tick by tick, where all ahead of it ask at once,
// and again as soon as they may, and a lesser one holds it up for its Block;
// false: not by its Deadline.
func day(s set.Set, i int) (int64, bool) {
	own := need(s.Tasks[i]) + block.Of(s)[i]
	l, left := ahead(s, i), int64(0) // of those ahead
	for tick := int64(0); tick < s.Tasks[i].Deadline; tick++ {
		for _, one := range l {
			if tick%one.Period == 0 {
				left += one.Cost
			}
		}
		if left > 0 {
			left--
		} else {
			own--
		}
		if own == 0 {
			return tick + 1, true
		}
	}
	return 0, false
}

// grown is a set of as many tasks, of small numbers.
func grown(r *rand.Rand, count int) set.Set {
	s := set.Set{Locks: r.Intn(4)}
	for i := range count {
		period := int64(4+r.Intn(9)) * int64(1+r.Intn(3*count))
		deadline := period - r.Int63n(1+period/3)
		task := set.Task{Name: string(rune('a' + i)), Period: period, Deadline: deadline, Budget: 1 + r.Int63n(deadline)}
		for range 1 + r.Intn(3) {
			run := op.Op{Kind: op.Run, N: 1 + r.Int63n(4)}
			lock := int64(r.Intn(4))
			if lock >= int64(s.Locks) {
				task.Prog = append(task.Prog, run)
				continue
			}
			task.Prog = append(task.Prog, op.Op{Kind: op.Lock, N: lock}, run, op.Op{Kind: op.Unlock, N: lock})
		}
		s.Tasks = append(s.Tasks, task)
	}
	return s
}

func TestGrownSets(t *testing.T) {
	r := rand.New(rand.NewSource(14))
	done, late, held := 0, 0, 0
	for range 3000 {
		s := grown(r, 1+r.Intn(api.MaxTasks))
		if at, e := set.Check(s); e != api.OK {
			t.Fatalf("P701: Check of %v: %d, %v", s, at, e)
		}
		for i := range s.Tasks {
			want, ok := day(s, i)
			switch {
			case !ok:
				ofFails(t, s, i, api.ErrLate)
				late++
			default:
				ofIs(t, s, i, want)
				done++
				held += int(min(block.Of(s)[i], 1))
			}
		}
	}
	if done < 5000 || late < 2000 || held < 1500 {
		t.Errorf("only %d are done, %d of them held up, and %d late", done, held, late)
	}
}

// roomyLoads is l with spare room behind it.
func roomyLoads(l []rta.Load) []rta.Load {
	return append(slices.Clone(l), loads(7, 77, 0, -1)...)[:len(l)]
}

// TestNoLoadIsChanged: nor the spare room; what lies there is not looked at.
func TestNoLoadIsChanged(t *testing.T) {
	for _, plain := range append(wrongLoads(), nil, loads(3, 1), loads(9, 2, 3, 1, 5, 1), loads(1, 1), loads(2, greatest)) {
		l := roomyLoads(plain)
		before := fmt.Sprint(l[:cap(l)])
		for _, own := range []int64{-1, 0, 4, greatest} {
			holdsNext(t, 9, own, l)
			holdsFix(t, own, l, 90)
			holdsFix(t, own, l, greatest)
		}
		if after := fmt.Sprint(l[:cap(l)]); after != before {
			t.Errorf("P2: %s is changed to %s", before, after)
		}
	}
}

// TestNoLoadIsKept: one that is changed tells another answer.
func TestNoLoadIsKept(t *testing.T) {
	l := loads(4, 1, 6, 2)
	fixIs(t, 2, l, 90, 6, 3)
	l[1].Cost = 0
	fixIs(t, 2, l, 90, 3, 2)
	nextIs(t, 5, 2, l, 4)
	l[0].Period = 0
	fixFails(t, 2, l, 90, api.ErrArg)
	l[0].Period, l[1].Cost = 4, 2
	fixIs(t, 2, l, 90, 6, 3)
	nextIs(t, 5, 2, l, 6)
}

// roomy is s with spare room behind each of its lists.
func roomy(s set.Set) set.Set {
	s.Chans = append(slices.Clone(s.Chans), set.Chan{Room: 77}, set.Chan{Server: 78})[:len(s.Chans)]
	s.Tasks = append(slices.Clone(s.Tasks), set.Task{Name: "spare", Period: 1, Deadline: 1, Budget: 9}, set.Task{Name: "more"})[:len(s.Tasks)]
	for i := range s.Tasks {
		p := slices.Clone(s.Tasks[i].Prog)
		for j := range p {
			p[j].Cases = append(slices.Clone(p[j].Cases), op.Case{Chan: 66}, op.Case{V: 67})[:len(p[j].Cases)]
		}
		s.Tasks[i].Prog = append(p, op.Op{Kind: op.Run, N: 900}, op.Op{Kind: op.Lock, N: 0})[:len(p)]
	}
	return s
}

// whole is all of s, the spare room of its lists too.
func whole(s set.Set) string {
	var all strings.Builder
	fmt.Fprintln(&all, s.Locks, len(s.Chans), len(s.Tasks), s.Chans[:cap(s.Chans)])
	for _, task := range s.Tasks[:cap(s.Tasks)] {
		fmt.Fprintln(&all, task.Name, task.Period, task.Deadline, task.Budget, len(task.Prog))
		for _, o := range task.Prog[:cap(task.Prog)] {
			fmt.Fprintln(&all, o.Kind, o.N, o.V, o.Wait, len(o.Cases), o.Cases[:cap(o.Cases)])
		}
	}
	return all.String()
}

func several(t *testing.T) []set.Set {
	t.Helper()
	return []set.Set{
		taken(t, ordinary),
		taken(t, "locks 0;task a 1 1 1;run 1;task b 90 90 1;run 1"),
		taken(t, "locks 8;chan 2 0;chan 0 -;task a 90 80 9;run 1;select - recv 0 send 1 5;lock 7;run 2;unlock 7;task b 90 70 60;loop 3;run 9;end;task c 90 90 90;lock 7;run 30;unlock 7"),
		taken(t, "locks 2;task a 20 20 5;loop 2;lock 0;run 3;unlock 0;end;task b 30 25 9;lock 0;lock 1;run 1;unlock 1;unlock 0;task c 90 7 6;run 4"),
	}
}

// all is what Of tells of each number around those of the tasks.
func all(s set.Set) string {
	var told []string
	for i := -1; i <= len(s.Tasks); i++ {
		told = append(told, fmt.Sprint(rta.Of(s, i)))
	}
	return strings.Join(told, ", ")
}

func TestNothingIsChanged(t *testing.T) {
	for _, plain := range several(t) {
		s := roomy(plain)
		before, want := whole(s), all(plain)
		if got := all(s); got != want {
			t.Errorf("P2: %v: %s with spare room, %s without", plain, got, want)
		}
		if after := whole(s); after != before {
			t.Errorf("P2: it was\n%s\nand is\n%s", before, after)
		}
		if again := all(s); again != want {
			t.Errorf("P3: %v: %s at first, then %s", plain, want, again)
		}
	}
}

func TestNothingIsKept(t *testing.T) {
	s := taken(t, ordinary)
	before := all(s)
	s.Tasks[1].Prog[1].N, s.Tasks[2].Prog[2].N = 3, 1
	eachIs(t, s, 15, 4, 27, 7)
	s.Tasks[1].Prog[1].N, s.Tasks[2].Prog[2].N = 2, 2
	if after := all(s); after != before {
		t.Errorf("P3: %s at first, then %s", before, after)
	}
}

func TestNoListAndAnEmptyOne(t *testing.T) {
	none := taken(t, "locks 2;task a 9 9 9;lock 0;run 3;unlock 0;task b 9 9 9;lock 0;lock 1;run 1;unlock 1;unlock 0")
	empty := none
	none.Chans, empty.Chans = nil, []set.Chan{}
	empty.Tasks = slices.Clone(none.Tasks)
	for i, task := range none.Tasks {
		empty.Tasks[i].Prog = slices.Clone(task.Prog)
		for j := range task.Prog {
			task.Prog[j].Cases, empty.Tasks[i].Prog[j].Cases = nil, []op.Case{}
		}
	}
	eachIs(t, none, 4, 4)
	eachIs(t, empty, 4, 4)
	eachIs(t, set.Set{})
	eachIs(t, set.Set{Locks: 3, Chans: []set.Chan{}, Tasks: []set.Task{}})
}

// strange is programs that prog.Check refuses, or with locks of no set.
func strange() [][]op.Op {
	return [][]op.Op{
		nil, {{}}, make([]op.Op, 200), {{Kind: op.End}, {Kind: op.End}}, {{Kind: op.Loop, N: greatest}, {Kind: op.Loop, N: greatest}, {Kind: op.Run, N: greatest}},
		{{Kind: op.Loop, N: 1 << 40}, {Kind: op.Lock}, {Kind: op.Run, N: 1}, {Kind: op.Unlock}, {Kind: op.End}},
		{{Kind: op.Loop, N: smallest}, {Kind: op.Run, N: smallest}, {Kind: op.End}}, {{Kind: op.Run, N: -5}}, {{Kind: 99, N: 1}, {Kind: -1}},
		{{Kind: op.Lock, N: -1}, {Kind: op.Lock, N: smallest}, {Kind: op.Lock, N: greatest}}, {{Kind: op.Run, N: greatest}},
		{{Kind: op.Lock, N: 7}, {Kind: op.Run, N: 1}, {Kind: op.Unlock, N: 7}}, {{Kind: op.Select, Cases: make([]op.Case, 50)}},
	}
}

// TestAnyData: of what set.Check refuses only P1, P2 and P4 hold.
func TestAnyData(t *testing.T) {
	numbers := []int64{smallest, -1 << 32, -1, 0, 1, 7, 8, 9, 1 << 31, 1 << 40, greatest}
	r := rand.New(rand.NewSource(15))
	number := func() int64 { return numbers[r.Intn(len(numbers))] }
	progs := strange()
	for range 3000 {
		s := set.Set{Locks: int(number()), Chans: make([]set.Chan, r.Intn(20))}
		for range r.Intn(20) {
			s.Tasks = append(s.Tasks, set.Task{Period: number(), Deadline: number(), Budget: number(), Prog: progs[r.Intn(len(progs))]})
		}
		s = roomy(s)
		before := whole(s)
		for i := -1; i <= len(s.Tasks); i++ {
			if got, e := rta.Of(s, i); e != api.OK && got != 0 {
				t.Errorf("P4: Of(%s, %d): %d, %v", before, i, got, e)
			}
		}
		if after := whole(s); after != before {
			t.Errorf("P2: %s is changed to %s", before, after)
		}
	}
}
