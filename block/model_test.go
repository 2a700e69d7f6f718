package block_test

import (
	"fmt"
	"math"
	"math/rand"
	"slices"
	"strings"
	"testing"

	"watchbill/api"
	"watchbill/block"
	"watchbill/op"
	"watchbill/set"
)

// walk does p as it is done, op by op, with a row of the Loops that it is in.
func walk(p []op.Op, do func(o op.Op)) {
	type loop struct {
		at   int
		left int64
	}
	var open []loop
	for at := 0; at < len(p); at++ {
		last := len(open) - 1
		switch {
		case p[at].Kind == op.Loop:
			open = append(open, loop{at, p[at].N})
		case p[at].Kind != op.End:
			do(p[at])
		case open[last].left > 1:
			open[last].left--
			at = open[last].at
		default:
			open = open[:last]
		}
	}
}

// longest is how long a task may hold each lock at a time, at most its Need.
func longest(task set.Task) [api.MaxLocks]int64 {
	var most, began [api.MaxLocks]int64
	all := int64(0)
	walk(task.Prog, func(o op.Op) {
		switch o.Kind {
		case op.Run:
			all += o.N
		case op.Lock:
			began[o.N] = all
		case op.Unlock:
			most[o.N] = max(most[o.N], all-began[o.N])
		}
	})
	for lock := range most {
		most[lock] = min(most[lock], all, task.Budget)
	}
	return most
}

// ahead tells if task i has a greater priority than task j.
func ahead(s set.Set, i, j int) bool {
	a, b := s.Tasks[i].Deadline, s.Tasks[j].Deadline
	return a < b || a == b && i < j
}

// has tells if task i or one ahead of it has that lock: then, and then alone,
// its ceiling is the task's own priority or more.
func has(s set.Set, i, lock int) bool {
	for k, task := range s.Tasks {
		if k != i && !ahead(s, k, i) {
			continue
		}
		for _, o := range task.Prog {
			if o.Kind == op.Lock && o.N == int64(lock) {
				return true
			}
		}
	}
	return false
}

// model is the promise, task by task, without a priority or a ceiling.
func model(s set.Set) []int64 {
	sections := make([][api.MaxLocks]int64, len(s.Tasks))
	for i, task := range s.Tasks {
		sections[i] = longest(task)
	}
	all := make([]int64, len(s.Tasks))
	for i := range s.Tasks {
		for lock := range s.Locks {
			if !has(s, i, lock) {
				continue
			}
			for j := range s.Tasks {
				if ahead(s, i, j) {
					all[i] = max(all[i], sections[j][lock])
				}
			}
		}
	}
	return all
}

func holds(t *testing.T, s set.Set) {
	t.Helper()
	blocks(t, s, model(s)...)
}

func TestOrdinarySetsHoldAgainstTheModel(t *testing.T) {
	for _, s := range several(t) {
		holds(t, s)
	}
}

// small is all programs of up to most ops of a few that set.Check takes.
func small(t *testing.T, most int) [][]op.Op {
	t.Helper()
	few := ops(t, "lock 0;unlock 0;lock 1;unlock 1;run 1;loop 2;end")
	var all [][]op.Op
	rows := [][]op.Op{nil}
	for range most {
		var longer [][]op.Op
		for _, row := range rows {
			for _, o := range few {
				longer = append(longer, append(slices.Clip(row), o))
			}
		}
		rows = longer
		for _, row := range rows {
			if _, e := set.Check(named(2, set.Task{Period: 90, Deadline: 90, Budget: 90, Prog: row})); e == api.OK {
				all = append(all, row)
			}
		}
	}
	return all
}

func TestEverySmallProgram(t *testing.T) {
	all := small(t, 6)
	if len(all) < 100 {
		t.Fatalf("there are only %d small programs", len(all))
	}
	for at, p := range all {
		other, third := all[(at*7+3)%len(all)], all[(at*11+5)%len(all)]
		for budget := int64(1); budget <= 9; budget += 2 {
			holds(t, taken(t, 2,
				set.Task{Period: 90, Deadline: 50, Budget: budget, Prog: p},
				set.Task{Period: 90, Deadline: 40 + budget*2, Budget: 9, Prog: other},
				set.Task{Period: 90, Deadline: 47, Budget: 2, Prog: third},
			))
		}
	}
}

// grower makes programs: each lock is given back, each Loop has its End.
type grower struct {
	r     *rand.Rand
	locks int
}

// run is ops in a row, above the locks up to held, within so many Loops.
func (g grower) run(held, loops int) []op.Op {
	var p []op.Op
	for range 1 + g.r.Intn(3) {
		p = append(p, g.one(held, loops)...)
	}
	return p
}

func (g grower) one(held, loops int) []op.Op {
	switch n := g.r.Intn(12); {
	case n < 4 && held < g.locks:
		lock := held + g.r.Intn(g.locks-held)
		return around(op.Op{Kind: op.Lock, N: int64(lock)}, g.run(lock+1, loops), op.Op{Kind: op.Unlock, N: int64(lock)})
	case n < 5 && loops < api.MaxNest:
		return around(op.Op{Kind: op.Loop, N: 1 + g.r.Int63n(4)}, g.run(held, loops+1), op.Op{Kind: op.End})
	case n == 5:
		return []op.Op{{Kind: op.Send, N: 0, V: g.r.Int63n(9)}}
	}
	return []op.Op{{Kind: op.Run, N: 1 + g.r.Int63n(40)}}
}

func around(first op.Op, p []op.Op, last op.Op) []op.Op {
	return append(append([]op.Op{first}, p...), last)
}

// grown is a set of as many tasks; those of a small Deadline are cut short.
func grown(r *rand.Rand, count int) set.Set {
	g := grower{r, r.Intn(api.MaxLocks + 1)}
	tasks := make([]set.Task, count)
	for i := range tasks {
		most := []int64{9, 500, 5000, api.MaxTick}[r.Intn(4)]
		deadline := 1 + r.Int63n(most)
		tasks[i] = set.Task{Period: deadline + r.Int63n(api.MaxTick-deadline+1), Deadline: deadline, Budget: 1 + r.Int63n(deadline)}
		for range 1 + r.Intn(3) {
			tasks[i].Prog = append(tasks[i].Prog, g.run(0, 0)...)
		}
	}
	return named(g.locks, tasks...)
}

func TestGrownSets(t *testing.T) {
	r := rand.New(rand.NewSource(11))
	tasks, zero, unlike := map[int]int{}, 0, 0
	for done := 0; done < 1500; {
		s := grown(r, 1+done%api.MaxTasks)
		if _, e := set.Check(s); e != api.OK {
			continue
		}
		done++
		holds(t, s)
		tasks[len(s.Tasks)]++
		all := model(s)
		slices.Sort(all)
		if all[len(all)-1] == 0 {
			zero++
		}
		if len(slices.Compact(all)) > 3 {
			unlike++
		}
	}
	for count := 1; count <= api.MaxTasks; count++ {
		if tasks[count] < 100 {
			t.Errorf("only %d sets have %d tasks", tasks[count], count)
		}
	}
	if zero < 100 || unlike < 200 {
		t.Errorf("in %d sets nobody is held up, and only %d have more than three numbers", zero, unlike)
	}
}

// roomy is s with spare room behind each of its lists.
func roomy(s set.Set) set.Set {
	s.Chans = append(slices.Clone(s.Chans), set.Chan{Room: 77}, set.Chan{Server: 78})[:len(s.Chans)]
	s.Tasks = append(slices.Clone(s.Tasks), set.Task{Name: "spare", Deadline: 1, Budget: 9}, set.Task{Name: "more"})[:len(s.Tasks)]
	for i := range s.Tasks {
		p := slices.Clone(s.Tasks[i].Prog)
		for j := range p {
			p[j].Cases = append(slices.Clone(p[j].Cases), op.Case{Chan: 66}, op.Case{V: 67})[:len(p[j].Cases)]
		}
		p = append(p, op.Op{Kind: op.Lock, N: 0}, op.Op{Kind: op.Run, N: 900}, op.Op{Kind: op.Unlock, N: 0})
		s.Tasks[i].Prog = p[:len(p)-3]
	}
	return s
}

// whole is all of s, the spare room of its lists too.
func whole(s set.Set) string {
	var all strings.Builder
	fmt.Fprintln(&all, s.Locks, len(s.Chans), len(s.Tasks), s.Chans[:cap(s.Chans)])
	for _, task := range s.Tasks[:cap(s.Tasks)] {
		fmt.Fprintln(&all, task.Name, task.Period, task.Deadline, task.Budget, len(task.Prog))
		for _, o := range task.Prog[:cap(task.Prog)] {
			fmt.Fprintln(&all, o.Kind, o.N, o.V, o.Wait, len(o.Cases), o.Cases[:cap(o.Cases)])
		}
	}
	return all.String()
}

func several(t *testing.T) []set.Set {
	t.Helper()
	return []set.Set{
		ordinary(t),
		alike(t, 0, "run 1"),
		alike(t, 8, "run 1;select - recv 0;lock 7;run 2;unlock 7", "lock 0;run 3;unlock 0", "lock 7;run 4;unlock 7"),
		alike(t, 2, "loop 2;lock 0;run 3;unlock 0;end", "lock 0;lock 1;run 1;unlock 1;unlock 0", "run 4"),
	}
}

func TestNothingIsChanged(t *testing.T) {
	for _, plain := range several(t) {
		s := roomy(plain)
		before, want := whole(s), fmt.Sprint(block.Of(plain))
		if got := fmt.Sprint(block.Of(s)); got != want {
			t.Errorf("P2: %v: %s with spare room, %s without", plain, got, want)
		}
		if after := whole(s); after != before {
			t.Errorf("P2: it was\n%s\nand is\n%s", before, after)
		}
		if again := fmt.Sprint(block.Of(s)); again != want {
			t.Errorf("P3: %v: %s at first, then %s", plain, want, again)
		}
	}
}

func TestNothingIsKept(t *testing.T) {
	s := ordinary(t)
	before := fmt.Sprint(block.Of(s))
	s.Tasks[0].Deadline, s.Tasks[0].Budget = 15, 15
	s.Tasks[0].Prog[1].N = 6
	blocks(t, s, 7, 7, 7, 0)
	s.Tasks[0].Deadline, s.Tasks[0].Budget, s.Tasks[0].Prog[1].N = 90, 50, 4
	if after := fmt.Sprint(block.Of(s)); after != before {
		t.Errorf("P3: %s at first, then %s", before, after)
	}
}

func TestAnswersAreNewMemory(t *testing.T) {
	for _, s := range several(t) {
		before := whole(s)
		one, other := block.Of(s), block.Of(s)
		told := fmt.Sprint(other)
		one = one[:cap(one)]
		for i := range one {
			one[i] = -7
		}
		if got := fmt.Sprint(other); got != told {
			t.Errorf("P2: two answers share memory: %s, not %s", got, told)
		}
		if got := fmt.Sprint(block.Of(s)); got != told || whole(s) != before {
			t.Errorf("P2: %s after an answer was overwritten, not %s", got, told)
		}
	}
}

// same holds the answers of two sets that are the same against each other.
func same(t *testing.T, none, empty set.Set) {
	t.Helper()
	if a, b := block.Of(none), block.Of(empty); !slices.Equal(a, b) {
		t.Errorf("P2: %v with no lists, %v with empty ones: %v", a, b, none)
	}
}

func TestNoListAndAnEmptyOne(t *testing.T) {
	none := alike(t, 2, "lock 0;run 3;unlock 0", "lock 0;lock 1;run 1;unlock 1;unlock 0")
	none.Chans = nil
	empty := none
	empty.Chans = []set.Chan{}
	empty.Tasks = slices.Clone(none.Tasks)
	for i, task := range none.Tasks {
		empty.Tasks[i].Prog = slices.Clone(task.Prog)
		for j := range task.Prog {
			task.Prog[j].Cases, empty.Tasks[i].Prog[j].Cases = nil, []op.Case{}
		}
	}
	same(t, none, empty)
	blocks(t, none, 1, 0)
	blocks(t, empty, 1, 0)
	for i := range none.Tasks {
		none.Tasks[i].Prog, empty.Tasks[i].Prog = nil, []op.Op{}
	}
	same(t, none, empty)
	same(t, set.Set{}, set.Set{Tasks: []set.Task{}})
	same(t, set.Set{Locks: 3}, set.Set{Locks: 3, Chans: []set.Chan{}, Tasks: []set.Task{}})
}

// strange is programs that prog.Check refuses, or with locks of no set.
func strange() [][]op.Op {
	const most, least = math.MaxInt64, math.MinInt64
	return [][]op.Op{
		nil, {{}}, make([]op.Op, 200), {{Kind: op.End}, {Kind: op.End}}, {{Kind: op.Loop, N: most}, {Kind: op.Loop, N: most}, {Kind: op.Run, N: most}},
		{{Kind: op.Loop, N: 1 << 40}, {Kind: op.Lock}, {Kind: op.Run, N: 1}, {Kind: op.Unlock}, {Kind: op.End}},
		{{Kind: op.Loop, N: least}, {Kind: op.Run, N: least}, {Kind: op.End}}, {{Kind: op.Run, N: -5}}, {{Kind: 99, N: 1}, {Kind: -1}},
		{{Kind: op.Lock, N: -1}, {Kind: op.Lock, N: least}, {Kind: op.Lock, N: most}, {Kind: op.Lock, N: 8}, {Kind: op.Lock, N: 1 << 32}},
		{{Kind: op.Lock}, {Kind: op.Lock}, {Kind: op.Run, N: 3}}, {{Kind: op.Unlock}, {Kind: op.Unlock, N: 7}}, {{Kind: op.Lock, N: 7}, {Kind: op.Run, N: 1}, {Kind: op.Unlock, N: 7}},
		{{Kind: op.Select, Cases: make([]op.Case, 50)}, {Kind: op.Send, N: least, Wait: most}},
	}
}

// TestAnyData: of what set.Check refuses only P1 and P2 hold.
func TestAnyData(t *testing.T) {
	numbers := []int64{math.MinInt64, -1 << 32, -1, 0, 1, 7, 8, 9, 1 << 31, 1 << 40, math.MaxInt64}
	r := rand.New(rand.NewSource(12))
	number := func() int64 { return numbers[r.Intn(len(numbers))] }
	progs := strange()
	for range 3000 {
		s := set.Set{Locks: int(number()), Chans: make([]set.Chan, r.Intn(20))}
		for range r.Intn(20) {
			s.Tasks = append(s.Tasks, set.Task{Period: number(), Deadline: number(), Budget: number(), Prog: progs[r.Intn(len(progs))]})
		}
		s = roomy(s)
		before := whole(s)
		block.Of(s)
		if after := whole(s); after != before {
			t.Errorf("P2: %s is changed to %s", before, after)
		}
	}
}

// TestManyTasks: a set that is refused for its many tasks.
func TestManyTasks(t *testing.T) {
	p := ops(t, "lock 0;run 1;unlock 0")
	tasks := make([]set.Task, 20000)
	for i := range tasks {
		tasks[i] = set.Task{Deadline: int64(i * i % 1009), Budget: 1, Prog: p}
	}
	block.Of(named(api.MaxLocks, tasks...))
}
