package ceil_test

import (
	"fmt"
	"math"
	"math/rand"
	"slices"
	"strings"
	"testing"

	"watchbill/api"
	"watchbill/ceil"
	"watchbill/op"
	"watchbill/set"
)

// walk does p as it is done, op by op, with a row of the Loops that it is in.
func walk(p []op.Op, do func(o op.Op)) {
	type loop struct {
		at   int
		left int64
	}
	var open []loop
	for at := 0; at < len(p); at++ {
		last := len(open) - 1
		switch {
		case p[at].Kind == op.Loop:
			open = append(open, loop{at, p[at].N})
		case p[at].Kind != op.End:
			do(p[at])
		case open[last].left > 1:
			open[last].left--
			at = open[last].at
		default:
			open = open[:last]
		}
	}
}

// longest is the promise of Sections, of one task.
func longest(task set.Task, lock int) int64 {
	var most, all, began int64
	walk(task.Prog, func(o op.Op) {
		switch {
		case o.Kind == op.Run:
			all += o.N
		case o.Kind == op.Lock && o.N == int64(lock):
			began = all
		case o.Kind == op.Unlock && o.N == int64(lock):
			most = max(most, all-began)
		}
	})
	return min(most, all, task.Budget)
}

// priority is counted: one more than those that go behind task i.
func priority(s set.Set, i int) int {
	prio := 1
	for j := range s.Tasks {
		a, b := s.Tasks[i].Deadline, s.Tasks[j].Deadline
		if a < b || a == b && i < j {
			prio++
		}
	}
	return prio
}

// model is what both must answer: of each lock its ceiling, and of each task
// its section.
func model(s set.Set) (ceilings []int, sections [][]int64) {
	ceilings, sections = make([]int, s.Locks), make([][]int64, s.Locks)
	for lock := range s.Locks {
		for i, task := range s.Tasks {
			for _, o := range task.Prog {
				if o.Kind == op.Lock && o.N == int64(lock) {
					ceilings[lock] = max(ceilings[lock], priority(s, i))
				}
			}
			sections[lock] = append(sections[lock], longest(task, lock))
		}
	}
	return ceilings, sections
}

func holds(t *testing.T, s set.Set) {
	t.Helper()
	all, each := model(s)
	ceilings(t, s, all...)
	for lock := range s.Locks {
		sections(t, s, lock, each[lock]...)
	}
	sections(t, s, -1)
	sections(t, s, s.Locks)
}

func TestOrdinarySetsHoldAgainstTheModel(t *testing.T) {
	holds(t, ordinary(t))
	holds(t, alike(t, 8, "loop 2;lock 0;loop 3;run 5;end;unlock 0;run 40;end", "lock 7;run 1;unlock 7"))
}

// small is all programs of up to most ops of a few that set.Check takes.
func small(t *testing.T, most int) [][]op.Op {
	t.Helper()
	few := ops(t, "lock 0;unlock 0;lock 1;unlock 1;run 1;loop 2;end")
	var all [][]op.Op
	rows := [][]op.Op{nil}
	for range most {
		var longer [][]op.Op
		for _, row := range rows {
			for _, o := range few {
				longer = append(longer, append(slices.Clip(row), o))
			}
		}
		rows = longer
		for _, row := range rows {
			if _, e := set.Check(named(2, set.Task{Period: 90, Deadline: 90, Budget: 90, Prog: row})); e == api.OK {
				all = append(all, row)
			}
		}
	}
	return all
}

func TestEverySmallProgram(t *testing.T) {
	all := small(t, 6)
	if len(all) < 100 {
		t.Fatalf("there are only %d small programs", len(all))
	}
	for at, p := range all {
		other := all[(at*7+3)%len(all)]
		for budget := int64(1); budget <= 9; budget += 2 {
			holds(t, taken(t, 2,
				set.Task{Period: 90, Deadline: 50, Budget: budget, Prog: p},
				set.Task{Period: 90, Deadline: 40 + budget*2, Budget: 9, Prog: other},
			))
		}
	}
}

// grower makes programs: each lock is given back, each Loop has its End.
type grower struct {
	r     *rand.Rand
	locks int
}

// run is ops in a row, above the locks up to held, within so many Loops.
func (g grower) run(held, loops int) []op.Op {
	var p []op.Op
	for range 1 + g.r.Intn(3) {
		p = append(p, g.one(held, loops)...)
	}
	return p
}

func (g grower) one(held, loops int) []op.Op {
	switch n := g.r.Intn(10); {
	case n < 5 && held < g.locks:
		lock := held + g.r.Intn(g.locks-held)
		return around(op.Op{Kind: op.Lock, N: int64(lock)}, g.run(lock+1, loops), op.Op{Kind: op.Unlock, N: int64(lock)})
	case n < 7 && loops < api.MaxNest:
		return around(op.Op{Kind: op.Loop, N: 1 + g.r.Int63n(4)}, g.run(held, loops+1), op.Op{Kind: op.End})
	case n == 7:
		return []op.Op{{Kind: op.Send, N: 0, V: g.r.Int63n(9)}}
	}
	return []op.Op{{Kind: op.Run, N: 1 + g.r.Int63n(40)}}
}

func around(first op.Op, p []op.Op, last op.Op) []op.Op {
	return append(append([]op.Op{first}, p...), last)
}

func grown(r *rand.Rand) set.Set {
	g := grower{r, r.Intn(api.MaxLocks + 1)}
	tasks := make([]set.Task, 1+r.Intn(api.MaxTasks))
	for i := range tasks {
		most := []int64{9, 60, 5000, api.MaxTick}[r.Intn(4)]
		deadline := 1 + r.Int63n(most)
		tasks[i] = set.Task{Period: deadline + r.Int63n(api.MaxTick-deadline+1), Deadline: deadline, Budget: 1 + r.Int63n(deadline), Prog: g.run(0, 0)}
	}
	return named(g.locks, tasks...)
}

func TestGrownSets(t *testing.T) {
	r := rand.New(rand.NewSource(10))
	met, cut := map[int]int{}, 0
	for done := 0; done < 1000; {
		s := grown(r)
		if _, e := set.Check(s); e != api.OK {
			continue
		}
		done++
		holds(t, s)
		met[s.Locks]++
		for _, task := range s.Tasks {
			for lock := range s.Locks {
				if full := (set.Task{Budget: math.MaxInt64, Prog: task.Prog}); longest(full, lock) > task.Budget {
					cut++
				}
			}
		}
	}
	for locks := 0; locks <= api.MaxLocks; locks++ {
		if met[locks] < 50 {
			t.Errorf("only %d sets have %d locks", met[locks], locks)
		}
	}
	if cut < 100 {
		t.Errorf("only %d sections are beyond their Need", cut)
	}
}

// roomy is s with spare room behind each of its lists.
func roomy(s set.Set) set.Set {
	s.Chans = append(slices.Clone(s.Chans), set.Chan{Room: 77}, set.Chan{Server: 78})[:len(s.Chans)]
	s.Tasks = append(slices.Clone(s.Tasks), set.Task{Name: "spare", Deadline: 1, Budget: 9}, set.Task{Name: "more"})[:len(s.Tasks)]
	for i := range s.Tasks {
		p := slices.Clone(s.Tasks[i].Prog)
		for j := range p {
			p[j].Cases = append(slices.Clone(p[j].Cases), op.Case{Chan: 66}, op.Case{V: 67})[:len(p[j].Cases)]
		}
		p = append(p, op.Op{Kind: op.Lock, N: 0}, op.Op{Kind: op.Run, N: 900}, op.Op{Kind: op.Unlock, N: 0})
		s.Tasks[i].Prog = p[:len(p)-3]
	}
	return s
}

// whole is all of s, the spare room of its lists too.
func whole(s set.Set) string {
	var all strings.Builder
	fmt.Fprintln(&all, s.Locks, len(s.Chans), len(s.Tasks), s.Chans[:cap(s.Chans)])
	for _, task := range s.Tasks[:cap(s.Tasks)] {
		fmt.Fprintln(&all, task.Name, task.Period, task.Deadline, task.Budget, len(task.Prog))
		for _, o := range task.Prog[:cap(task.Prog)] {
			fmt.Fprintln(&all, o.Kind, o.N, o.V, o.Wait, len(o.Cases), o.Cases[:cap(o.Cases)])
		}
	}
	return all.String()
}

func several(t *testing.T) []set.Set {
	t.Helper()
	return []set.Set{
		ordinary(t),
		alike(t, 0, "run 1"),
		alike(t, 8, "run 1;select - recv 0;lock 7;run 2;unlock 7", "lock 0;run 3;unlock 0"),
		alike(t, 2, "loop 2;lock 0;run 3;unlock 0;end", "lock 0;lock 1;run 1;unlock 1;unlock 0", "run 4"),
	}
}

func TestNothingIsChanged(t *testing.T) {
	for _, plain := range several(t) {
		s := roomy(plain)
		before, want := whole(s), callAll(plain)
		if got := callAll(s); got != want {
			t.Errorf("P2: %v: %s with spare room, %s without", plain, got, want)
		}
		if after := whole(s); after != before {
			t.Errorf("P2: it was\n%s\nand is\n%s", before, after)
		}
		if again := callAll(s); again != want {
			t.Errorf("P3: %v: %s at first, then %s", plain, want, again)
		}
	}
}

func TestNothingIsKept(t *testing.T) {
	s := ordinary(t)
	before := callAll(s)
	s.Tasks[0].Deadline = 50
	s.Tasks[1].Deadline = 90
	s.Tasks[0].Prog[1].N = 6
	ceilings(t, s, 4, 3, 4, 2, 0)
	sections(t, s, 0, 6, 0, 2, 0)
	s.Tasks[0].Deadline, s.Tasks[1].Deadline, s.Tasks[0].Prog[1].N = 90, 10, 4
	if after := callAll(s); after != before {
		t.Errorf("P3: %s at first, then %s", before, after)
	}
}

// spoil overwrites l and its spare room.
func spoil[T int | int64](l []T) {
	l = l[:cap(l)]
	for i := range l {
		l[i] = -7
	}
}

func TestAnswersAreNewMemory(t *testing.T) {
	for _, s := range several(t) {
		before, want := whole(s), callAll(s)
		all, more := ceil.Of(s), ceil.Of(s)
		told := fmt.Sprint(more)
		spoil(all)
		if got := fmt.Sprint(more); got != told {
			t.Errorf("P2: two answers of Of share memory: %s, not %s", got, told)
		}
		for lock := range s.Locks {
			one, other := ceil.Sections(s, lock), ceil.Sections(s, lock)
			told := fmt.Sprint(other)
			spoil(one)
			if got := fmt.Sprint(other); got != told {
				t.Errorf("P2: two answers of Sections of lock %d share memory: %s, not %s", lock, got, told)
			}
		}
		if got := callAll(s); got != want || whole(s) != before {
			t.Errorf("P2: %s after the answers were overwritten, not %s", got, want)
		}
	}
}

func TestNoListAndAnEmptyOne(t *testing.T) {
	none := alike(t, 2, "lock 0;run 3;unlock 0", "lock 0;lock 1;run 1;unlock 1;unlock 0")
	none.Chans = nil
	empty := none
	empty.Chans = []set.Chan{}
	empty.Tasks = slices.Clone(none.Tasks)
	for i, task := range none.Tasks {
		empty.Tasks[i].Prog = slices.Clone(task.Prog)
		for j := range task.Prog {
			task.Prog[j].Cases, empty.Tasks[i].Prog[j].Cases = nil, []op.Case{}
		}
	}
	if a, b := callAll(none), callAll(empty); a != b {
		t.Errorf("P2: %s with no lists of channels and cases, %s with empty ones", a, b)
	}
	holds(t, none)
	holds(t, empty)
	for i := range none.Tasks {
		none.Tasks[i].Prog, empty.Tasks[i].Prog = nil, []op.Op{}
	}
	if a, b := callAll(none), callAll(empty); a != b {
		t.Errorf("P2: %s with no programs, %s with empty ones", a, b)
	}
	if a, b := callAll(set.Set{Locks: 3}), callAll(set.Set{Locks: 3, Tasks: []set.Task{}}); a != b {
		t.Errorf("P2: %s with no list of tasks, %s with an empty one", a, b)
	}
}

// strange is programs that prog.Check refuses, or with locks of no set.
func strange() [][]op.Op {
	const most, least = math.MaxInt64, math.MinInt64
	return [][]op.Op{
		nil, {{}}, make([]op.Op, 200), {{Kind: op.End}, {Kind: op.End}}, {{Kind: op.Loop, N: most}, {Kind: op.Loop, N: most}, {Kind: op.Run, N: most}},
		{{Kind: op.Loop, N: 1 << 40}, {Kind: op.Lock}, {Kind: op.Run, N: 1}, {Kind: op.Unlock}, {Kind: op.End}},
		{{Kind: op.Loop, N: least}, {Kind: op.Run, N: least}, {Kind: op.End}}, {{Kind: op.Run, N: -5}}, {{Kind: 99, N: 1}, {Kind: -1}},
		{{Kind: op.Lock, N: -1}, {Kind: op.Lock, N: least}, {Kind: op.Lock, N: most}, {Kind: op.Lock, N: 8}, {Kind: op.Lock, N: 1 << 32}},
		{{Kind: op.Lock}, {Kind: op.Lock}, {Kind: op.Run, N: 3}}, {{Kind: op.Unlock}, {Kind: op.Unlock, N: 7}}, {{Kind: op.Lock, N: 7}, {Kind: op.Run, N: 1}, {Kind: op.Unlock, N: 7}},
		{{Kind: op.Select, Cases: make([]op.Case, 50)}, {Kind: op.Send, N: least, Wait: most}},
	}
}

// TestAnyData: of what set.Check refuses only P1 and P2 hold.
func TestAnyData(t *testing.T) {
	numbers := []int64{math.MinInt64, -1 << 32, -1, 0, 1, 7, 8, 9, 1 << 31, 1 << 40, math.MaxInt64}
	r := rand.New(rand.NewSource(11))
	number := func() int64 { return numbers[r.Intn(len(numbers))] }
	progs := strange()
	for range 2000 {
		s := set.Set{Locks: int(number()), Chans: make([]set.Chan, r.Intn(20))}
		for range r.Intn(20) {
			s.Tasks = append(s.Tasks, set.Task{Period: number(), Deadline: number(), Budget: number(), Prog: progs[r.Intn(len(progs))]})
		}
		s = roomy(s)
		before := whole(s)
		ceil.Of(s)
		for _, lock := range numbers {
			ceil.Sections(s, int(lock))
		}
		if after := whole(s); after != before {
			t.Errorf("P2: %s is changed to %s", before, after)
		}
	}
}

// TestManyTasks: a set that is refused for its many tasks.
func TestManyTasks(t *testing.T) {
	p := ops(t, "lock 0;run 1;unlock 0")
	tasks := make([]set.Task, 20000)
	for i := range tasks {
		tasks[i] = set.Task{Deadline: int64(i * i % 1009), Budget: 1, Prog: p}
	}
	s := named(api.MaxLocks, tasks...)
	ceil.Of(s)
	ceil.Sections(s, 0)
}
