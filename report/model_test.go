package report_test

import (
	"fmt"
	"math"
	"math/rand"
	"slices"
	"strings"
	"testing"

	"watchbill/api"
	"watchbill/op"
	"watchbill/report"
	"watchbill/set"
)

// walk does p as it is done, op by op, with a row of the Loops that it is in.
func walk(p []op.Op, do func(o op.Op)) {
	type loop struct {
		at   int
		left int64
	}
	var open []loop
	for at := 0; at < len(p); at++ {
		last := len(open) - 1
		switch {
		case p[at].Kind == op.Loop:
			open = append(open, loop{at, p[at].N})
		case p[at].Kind != op.End:
			do(p[at])
		case open[last].left > 1:
			open[last].left--
			at = open[last].at
		default:
			open = open[:last]
		}
	}
}

// costs is what a job may cost, and how long it may have each lock at a time.
func costs(task set.Task) (int64, [api.MaxLocks]int64) {
	var most, began [api.MaxLocks]int64
	all := int64(0)
	walk(task.Prog, func(o op.Op) {
		switch o.Kind {
		case op.Run:
			all += o.N
		case op.Lock:
			began[o.N] = all
		case op.Unlock:
			most[o.N] = max(most[o.N], all-began[o.N])
		}
	})
	all = min(all, task.Budget)
	for lock := range most {
		most[lock] = min(most[lock], all)
	}
	return all, most
}

func mayWait(o op.Op) bool {
	return (o.Kind == op.Send || o.Kind == op.Recv || o.Kind == op.Select) && o.Wait != 0
}

func hasLock(task set.Task, lock int) bool {
	return slices.ContainsFunc(task.Prog, func(o op.Op) bool { return o.Kind == op.Lock && o.N == int64(lock) })
}

// isAhead tells if task i has a greater priority than task j.
func isAhead(s set.Set, i, j int) bool {
	a, b := s.Tasks[i].Deadline, s.Tasks[j].Deadline
	return a < b || a == b && i < j
}

// response is the least r that is own and all that those ahead of task i ask
// for in r ticks, found tick by tick; false: it is beyond the Deadline.
func response(s set.Set, i int, own int64) (int64, bool) {
	for r := own; r <= s.Tasks[i].Deadline; r++ {
		sum := own
		for j, task := range s.Tasks {
			if isAhead(s, j, i) {
				cost, _ := costs(task)
				sum += cost * ((r + task.Period - 1) / task.Period)
			}
		}
		if sum == r {
			return r, true
		}
	}
	return 0, false
}

// model is the promise behind set.Check, told by counts; its Deadlines are too
// small for ErrCap.
func model(s set.Set) (report.Report, int, api.Errno) {
	if at, e := set.Check(s); e != api.OK {
		return report.Report{}, at, e
	}
	for i, task := range s.Tasks {
		if slices.ContainsFunc(task.Prog, mayWait) {
			return report.Report{}, i, api.ErrWait
		}
	}
	n := len(s.Tasks)
	r := report.Report{Prios: make([]int, n), Ceils: make([]int, s.Locks), Block: make([]int64, n), Resp: make([]int64, n)}
	for i := range n {
		for j := range n {
			if !isAhead(s, j, i) {
				r.Prios[i]++
			}
		}
	}
	for lock := range r.Ceils {
		for i, task := range s.Tasks {
			if hasLock(task, lock) {
				r.Ceils[lock] = max(r.Ceils[lock], r.Prios[i])
			}
		}
	}
	for i, task := range s.Tasks {
		for j := range n {
			_, sections := costs(s.Tasks[j])
			for lock, ceiling := range r.Ceils {
				if isAhead(s, i, j) && ceiling >= r.Prios[i] {
					r.Block[i] = max(r.Block[i], sections[lock])
				}
			}
		}
		cost, _ := costs(task)
		ok := false
		if r.Resp[i], ok = response(s, i, cost+r.Block[i]); !ok {
			return report.Report{}, i, api.ErrLate
		}
	}
	return r, 0, api.OK
}

func holds(t *testing.T, s set.Set) api.Errno {
	t.Helper()
	want, which, e := model(s)
	if e != api.OK {
		ofFails(t, s, which, e)
	} else {
		ofIs(t, s, want)
	}
	return e
}

// grower makes programs: each lock is given back, each Loop has its End.
type grower struct {
	r     *rand.Rand
	locks int
	waits int // one op of so many may wait
}

// run is ops in a row, above the locks up to held, within so many Loops.
func (g grower) run(held, loops int) []op.Op {
	var p []op.Op
	for range 1 + g.r.Intn(2) {
		p = append(p, g.one(held, loops)...)
	}
	return p
}

func (g grower) one(held, loops int) []op.Op {
	switch n := g.r.Intn(12); {
	case n < 4 && held < g.locks:
		lock := held + g.r.Intn(g.locks-held)
		return around(op.Op{Kind: op.Lock, N: int64(lock)}, g.run(lock+1, loops), op.Op{Kind: op.Unlock, N: int64(lock)})
	case n == 4 && loops < 2:
		return around(op.Op{Kind: op.Loop, N: 1 + g.r.Int63n(2)}, g.run(held, loops+1), op.Op{Kind: op.End})
	case n < 7:
		return []op.Op{g.channel()}
	}
	return []op.Op{{Kind: op.Run, N: 1 + g.r.Int63n(3)}}
}

// channel is an op on a channel.
func (g grower) channel() op.Op {
	wait := int64(0)
	if g.r.Intn(g.waits) == 0 {
		wait = []int64{-1, 1, 1000}[g.r.Intn(3)]
	}
	switch g.r.Intn(4) {
	case 0:
		return op.Op{Kind: op.Send, N: 1, V: g.r.Int63n(9), Wait: wait}
	case 1:
		return op.Op{Kind: op.Recv, N: 0, Wait: wait}
	case 2:
		return op.Op{Kind: op.Select, Wait: wait, Cases: []op.Case{{Send: true, Chan: 0, V: 4}, {Chan: 1}}}
	}
	return op.Op{Kind: op.Close, N: int64(g.r.Intn(2))}
}

func around(first op.Op, p []op.Op, last op.Op) []op.Op {
	return append(append([]op.Op{first}, p...), last)
}

// grown is a set of as many tasks; most of them are taken.
func grown(r *rand.Rand, count, waits int) set.Set {
	g := grower{r, r.Intn(4), waits}
	s := set.Set{Locks: g.locks, Chans: []set.Chan{{Room: 2, Server: -1}, {Server: r.Intn(count)}}}
	for i := range count {
		period := int64(4+r.Intn(9)) * int64(1+r.Intn(4*count))
		deadline := period - r.Int63n(1+period/3)
		task := set.Task{Name: string(rune('a' + i)), Period: period, Deadline: deadline, Budget: 1 + r.Int63n(deadline)}
		task.Prog = append(g.run(0, 0), op.Op{Kind: op.Run, N: 1})
		s.Tasks = append(s.Tasks, task)
	}
	return s
}

// bend is one field of a task of s that may not be.
func bend(r *rand.Rand, s set.Set) {
	task := &s.Tasks[r.Intn(len(s.Tasks))]
	switch r.Intn(6) {
	case 0:
		task.Name = s.Tasks[0].Name
	case 1:
		task.Deadline = task.Period + 1
	case 2:
		task.Budget = 0
	case 3:
		task.Prog = append(task.Prog, op.Op{Kind: op.End})
	case 4:
		task.Prog = append(task.Prog, op.Op{Kind: op.Close, N: 2})
	case 5:
		s.Chans[1].Server = len(s.Tasks)
	}
}

func TestGrownSets(t *testing.T) {
	r := rand.New(rand.NewSource(13))
	told := map[api.Errno]int{}
	for round := range 6000 {
		s := grown(r, 1+r.Intn(api.MaxTasks), 40)
		if round%4 == 0 {
			bend(r, s)
		}
		told[holds(t, s)]++
	}
	for _, e := range []api.Errno{api.OK, api.ErrArg, api.ErrName, api.ErrTwice, api.ErrOrder, api.ErrWait, api.ErrLate} {
		if told[e] < 100 {
			t.Errorf("only %d times %v is told", told[e], e)
		}
	}
}

// taker is a job as it goes through a day in which nobody waits.
type taker struct {
	live        bool
	seq         int
	begin, used int64
	at          int
	left        int64
	held        []int
}

// sim is a day of a set that the report r takes.
type sim struct {
	s     set.Set
	r     report.Report
	flat  [][]op.Op
	jobs  []taker
	seq   int
	now   int64
	worst []int64
}

func newSim(s set.Set, r report.Report) *sim {
	d := &sim{s: s, r: r, flat: make([][]op.Op, len(s.Tasks)), jobs: make([]taker, len(s.Tasks)), worst: make([]int64, len(s.Tasks))}
	for i, task := range s.Tasks {
		walk(task.Prog, func(o op.Op) { d.flat[i] = append(d.flat[i], o) })
	}
	return d
}

func (d *sim) ask(i int) {
	d.seq++
	d.jobs[i] = taker{live: true, seq: d.seq, begin: d.now}
}

// prio is the task's own one, and at least the ceilings of what it has.
func (d *sim) prio(i int) int {
	prio := d.r.Prios[i]
	for _, lock := range d.jobs[i].held {
		prio = max(prio, d.r.Ceils[lock])
	}
	return prio
}

// top is who goes next; -1: nobody.
func (d *sim) top() int {
	top := -1
	for i, j := range d.jobs {
		if !j.live {
			continue
		}
		if top < 0 || d.prio(i) > d.prio(top) || d.prio(i) == d.prio(top) && j.seq < d.jobs[top].seq {
			top = i
		}
	}
	return top
}

func (d *sim) end(i int, now int64) {
	d.worst[i] = max(d.worst[i], now-d.jobs[i].begin)
	d.jobs[i] = taker{}
}

// op does one op of a job that does not run, at that time.
func (d *sim) op(i int, now int64) {
	j := &d.jobs[i]
	if j.at == len(d.flat[i]) {
		d.end(i, now)
		return
	}
	o := d.flat[i][j.at]
	switch {
	case o.Kind == op.Run && j.used >= d.s.Tasks[i].Budget:
		d.end(i, now)
		return
	case o.Kind == op.Run:
		j.left = o.N
		return
	case o.Kind == op.Lock:
		j.held = append(j.held, int(o.N))
	case o.Kind == op.Unlock:
		j.held = j.held[:len(j.held)-1]
	}
	j.at++
}

// tick is what happens behind the asks of a tick.
func (d *sim) tick() {
	top := d.top()
	for top >= 0 && d.jobs[top].left == 0 {
		d.op(top, d.now)
		top = d.top()
	}
	if top >= 0 {
		j := &d.jobs[top]
		j.left, j.used = j.left-1, j.used+1
		switch {
		case j.left == 0:
			j.at++
		case j.used == d.s.Tasks[top].Budget:
			d.end(top, d.now+1)
		}
		for top = d.top(); top >= 0 && d.jobs[top].left == 0; top = d.top() {
			d.op(top, d.now+1)
		}
	}
	d.now++
}

// runSim is a day of so many ticks: each asks once a Period, at first at its
// own time, each time up to so many ticks late.
func runSim(r *rand.Rand, s set.Set, told report.Report, first []int64, lag, ticks int64) *sim {
	d, next := newSim(s, told), slices.Clone(first)
	for range ticks {
		for i, task := range s.Tasks {
			if d.now >= next[i] && !d.jobs[i].live {
				d.ask(i)
				next[i] = d.now + task.Period + r.Int63n(lag+1)
			}
		}
		d.tick()
	}
	return d
}

// inTime holds what came of a day against the report.
func inTime(t *testing.T, d *sim) (reached int) {
	t.Helper()
	for i, worst := range d.worst {
		if d.jobs[i].live {
			worst = max(worst, d.now-d.jobs[i].begin)
		}
		if worst > d.r.Resp[i] {
			t.Errorf("T2: %v: a job of task %d took %d ticks, its Resp is %d", d.s, i, worst, d.r.Resp[i])
		}
		if worst == d.r.Resp[i] {
			reached++
		}
	}
	return reached
}

// TestWhatIsTakenIsNeverLate: of any day; where all ask at once, and no lock
// lets a lesser one go ahead for a while, each Resp is reached.
func TestWhatIsTakenIsNeverLate(t *testing.T) {
	r := rand.New(rand.NewSource(14))
	days, reached, held := 0, 0, 0
	for days < 1500 {
		s := grown(r, 1+r.Intn(5), 1000)
		told, _, e := report.Of(s)
		if e != api.OK {
			continue
		}
		days++
		all := make([]int64, len(s.Tasks))
		d := runSim(r, s, told, all, 0, 200)
		inTime(t, d)
		for i, worst := range d.worst {
			if s.Locks == 0 && worst != told.Resp[i] {
				t.Errorf("T5: %v: task %d took %d ticks at most, its Resp is %d", s, i, worst, told.Resp[i])
			}
			held += int(min(told.Block[i], 1))
		}
		for range 3 {
			for i := range all {
				all[i] = r.Int63n(9)
			}
			reached += inTime(t, runSim(r, s, told, all, r.Int63n(12), 200))
		}
	}
	if reached < 3000 || held < 300 {
		t.Errorf("only %d reach their Resp, only %d may be held up", reached, held)
	}
}

// roomy is s with spare room behind each of its lists.
func roomy(s set.Set) set.Set {
	s.Chans = append(slices.Clone(s.Chans), set.Chan{Room: 77}, set.Chan{Server: 78})[:len(s.Chans)]
	s.Tasks = append(slices.Clone(s.Tasks), set.Task{Name: "spare", Period: 1, Deadline: 1, Budget: 9}, set.Task{Name: "more"})[:len(s.Tasks)]
	for i := range s.Tasks {
		p := slices.Clone(s.Tasks[i].Prog)
		for j := range p {
			p[j].Cases = append(slices.Clone(p[j].Cases), op.Case{Chan: 66}, op.Case{V: 67})[:len(p[j].Cases)]
		}
		s.Tasks[i].Prog = append(p, op.Op{Kind: op.Recv, Wait: -1}, op.Op{Kind: op.Lock, N: 0})[:len(p)]
	}
	return s
}

// whole is all of s, the spare room of its lists too.
func whole(s set.Set) string {
	var all strings.Builder
	fmt.Fprintln(&all, s.Locks, len(s.Chans), len(s.Tasks), s.Chans[:cap(s.Chans)])
	for _, task := range s.Tasks[:cap(s.Tasks)] {
		fmt.Fprintln(&all, task.Name, task.Period, task.Deadline, task.Budget, len(task.Prog))
		for _, o := range task.Prog[:cap(task.Prog)] {
			fmt.Fprintln(&all, o.Kind, o.N, o.V, o.Wait, len(o.Cases), o.Cases[:cap(o.Cases)])
		}
	}
	return all.String()
}

// several is sets that are taken, and one of each error behind set.Check.
func several(t *testing.T) []set.Set {
	t.Helper()
	return []set.Set{
		taken(t, ordinary),
		taken(t, "locks 8;chan 2 0;chan 0 -;task a 90 80 9;run 1;select 0 recv 0 send 1 5;lock 7;run 2;unlock 7;task b 90 70 60;loop 3;run 9;end;task c 90 90 90;lock 7;run 30;unlock 7"),
		taken(t, "locks 2;task a 30 25 6;loop 2;lock 0;run 3;unlock 0;end;task b 40 35 9;lock 0;lock 1;run 1;unlock 1;unlock 0;task c 90 7 6;run 4"),
		taken(t, "locks 0;chan 2 0;task a 90 80 9;run 1;task b 90 70 60;select - recv 0;run 2"),
		taken(t, "locks 0;task a 1 1 1;run 1;task b 90 90 1;run 1"),
		taken(t, "locks 0;task a 1 1 1;run 1;task b 2000 1001 1;run 1"),
		{},
	}
}

func TestNothingIsChanged(t *testing.T) {
	for _, plain := range several(t) {
		s := roomy(plain)
		before, want := whole(s), fmt.Sprint(report.Of(plain))
		if got := fmt.Sprint(report.Of(s)); got != want {
			t.Errorf("P2: %v: %s with spare room, %s without", plain, got, want)
		}
		if after := whole(s); after != before {
			t.Errorf("P2: it was\n%s\nand is\n%s", before, after)
		}
		if again := fmt.Sprint(report.Of(s)); again != want {
			t.Errorf("P3: %v: %s at first, then %s", plain, want, again)
		}
	}
}

func TestNothingIsKept(t *testing.T) {
	s := taken(t, ordinary)
	before := fmt.Sprint(report.Of(s))
	s.Tasks[1].Prog[1].N, s.Tasks[2].Prog[2].N, s.Locks = 3, 1, 3
	s.Tasks[1].Deadline, s.Tasks[3].Deadline, s.Tasks[3].Budget = 10, 5, 5
	ofIs(t, s, report.Report{Prios: []int{2, 3, 1, 4}, Ceils: []int{4, 3, 0}, Block: []int64{1, 1, 0, 0}, Resp: []int64{15, 7, 27, 3}})
	s.Tasks[1].Prog[1].N, s.Tasks[2].Prog[2].N, s.Locks = 2, 2, 2
	s.Tasks[1].Deadline, s.Tasks[3].Deadline, s.Tasks[3].Budget = 6, 15, 6
	if after := fmt.Sprint(report.Of(s)); after != before {
		t.Errorf("P3: %s at first, then %s", before, after)
	}
}

const bad = -7 // no list of a Report has it

// overwrite fills l, its spare room too, with that number.
func overwrite[N int | int64](l []N) {
	l = l[:cap(l)]
	for i := range l {
		l[i] = bad
	}
}

// TestAnswersAreNewMemory: no two answers share a list, no two lists of one
// answer share anything.
func TestAnswersAreNewMemory(t *testing.T) {
	for _, s := range several(t) {
		before := whole(s)
		told := fmt.Sprint(report.Of(s))
		one, _, _ := report.Of(s)
		other, which, e := report.Of(s)
		overwrite(one.Prios)
		overwrite(one.Block)
		if slices.Contains(one.Ceils[:cap(one.Ceils)], bad) || slices.Contains(one.Resp[:cap(one.Resp)], bad) {
			t.Errorf("P2: two lists of one answer share memory: %v", one)
		}
		overwrite(one.Ceils)
		overwrite(one.Resp)
		if got := fmt.Sprint(other, which, e); got != told {
			t.Errorf("P2: two answers share memory: %s, not %s", got, told)
		}
		if got := fmt.Sprint(report.Of(s)); got != told || whole(s) != before {
			t.Errorf("P2: %s after an answer was overwritten, not %s", got, told)
		}
	}
}

func TestNoListAndAnEmptyOne(t *testing.T) {
	none := taken(t, "locks 2;task a 9 9 9;lock 0;run 3;unlock 0;task b 9 9 9;lock 0;lock 1;run 1;unlock 1;unlock 0")
	empty := none
	none.Chans, empty.Chans = nil, []set.Chan{}
	empty.Tasks = slices.Clone(none.Tasks)
	for i, task := range none.Tasks {
		empty.Tasks[i].Prog = slices.Clone(task.Prog)
		for j := range task.Prog {
			task.Prog[j].Cases, empty.Tasks[i].Prog[j].Cases = nil, []op.Case{}
		}
	}
	want := report.Report{Prios: []int{2, 1}, Ceils: []int{2, 1}, Block: []int64{1, 0}, Resp: []int64{4, 4}}
	ofIs(t, none, want)
	ofIs(t, empty, want)
	none.Tasks[1].Prog, empty.Tasks[1].Prog = nil, []op.Op{}
	refused(t, none, 1, api.ErrShort)
	refused(t, empty, 1, api.ErrShort)
}

// strange is programs that prog.Check refuses.
func strange() [][]op.Op {
	const most, least = math.MaxInt64, math.MinInt64
	return [][]op.Op{
		nil, {{}}, make([]op.Op, 200), {{Kind: op.End}, {Kind: op.End}}, {{Kind: op.Loop, N: most}, {Kind: op.Loop, N: most}, {Kind: op.Run, N: most}},
		{{Kind: op.Loop, N: least}, {Kind: op.Run, N: least}, {Kind: op.End}}, {{Kind: op.Run, N: -5}}, {{Kind: 99, N: 1}, {Kind: -1}},
		{{Kind: op.Lock, N: -1}, {Kind: op.Lock, N: least}, {Kind: op.Lock, N: most}}, {{Kind: op.Run, N: most}},
		{{Kind: op.Lock, N: 7}, {Kind: op.Run, N: 1}, {Kind: op.Unlock, N: 7}}, {{Kind: op.Select, Cases: make([]op.Case, 50)}}, {{Kind: op.Run, N: 1}},
	}
}

// TestAnyData: what set.Check refuses is told as it tells it.
func TestAnyData(t *testing.T) {
	numbers := []int64{math.MinInt64, -1 << 32, -1, 0, 1, 7, 8, 9, 1 << 31, 1 << 40, math.MaxInt64}
	r := rand.New(rand.NewSource(15))
	number := func() int64 { return numbers[r.Intn(len(numbers))] }
	progs := strange()
	for range 3000 {
		s := set.Set{Locks: r.Intn(10) - 1, Chans: make([]set.Chan, r.Intn(10))}
		for range r.Intn(15) {
			s.Tasks = append(s.Tasks, set.Task{Name: string(rune('a' + r.Intn(26))), Period: number(), Deadline: number(), Budget: number(), Prog: progs[r.Intn(len(progs))]})
		}
		at, e := set.Check(s)
		if e == api.OK {
			continue
		}
		s = roomy(s)
		before := whole(s)
		refused(t, s, at, e)
		if after := whole(s); after != before {
			t.Errorf("P2: %s is changed to %s", before, after)
		}
	}
}
