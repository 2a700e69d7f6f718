package set_test

import (
	"fmt"
	"math"
	"math/rand"
	"slices"
	"strings"
	"testing"

	"watchbill/api"
	"watchbill/op"
	"watchbill/prog"
	"watchbill/set"
)

const apart = ";"

// ops is the program of lines, parted by semicolons.
func ops(t *testing.T, s string) []op.Op {
	t.Helper()
	var p []op.Op
	for _, line := range strings.Split(s, apart) {
		if line == "" {
			continue
		}
		o, e := op.Parse(line)
		if e != api.OK {
			t.Fatalf("P502: Parse(%q): %v", line, e)
		}
		p = append(p, o)
	}
	return p
}

func task(t *testing.T, name, p string) set.Task {
	t.Helper()
	return set.Task{Name: name, Period: 100, Deadline: 80, Budget: 60, Prog: ops(t, p)}
}

// made is a set that Check takes, new each time: three locks, three channels,
// four tasks.
func made(t *testing.T) set.Set {
	t.Helper()
	return set.Set{
		Locks: 3,
		Chans: []set.Chan{{Room: 4, Server: -1}, {Room: 0, Server: 2}, {Room: 16, Server: 0}},
		Tasks: []set.Task{
			task(t, "pump", "run 2;lock 2;run 1;unlock 2"),
			task(t, "valve", "send 1 5 0;loop 3;run 30;end"),
			task(t, "log", "run 1;select - recv 0 send 1 2;close 2"),
			task(t, "z", "lock 0;lock 1;run 7;unlock 1;unlock 0;recv 2 9"),
		},
	}
}

// many is a set of n tasks that Check takes, as far as it takes so many.
func many(t *testing.T, n int) set.Set {
	t.Helper()
	var s set.Set
	for i := range n {
		s.Tasks = append(s.Tasks, task(t, string(rune('a'+i/26%26))+string(rune('a'+i%26)), "run 1"))
	}
	return s
}

// alone is the set of one task with that program.
func alone(t *testing.T, locks, chans int, p string) set.Set {
	t.Helper()
	return set.Set{Locks: locks, Chans: make([]set.Chan, chans), Tasks: []set.Task{task(t, "a", p)}}
}

func tells(t *testing.T, s set.Set, at int, want api.Errno) {
	t.Helper()
	if got, e := set.Check(s); got != at || e != want {
		t.Errorf("P701: Check(%+v): %d, %v, not %d, %v", s, got, e, at, want)
	}
}

func takes(t *testing.T, s set.Set) {
	t.Helper()
	tells(t, s, 0, api.OK)
}

// changed is made, changed by each of the edits.
func changed(t *testing.T, edits ...func(s *set.Set)) set.Set {
	t.Helper()
	s := made(t)
	for _, edit := range edits {
		edit(&s)
	}
	return s
}

// wrongProgs is a program for each of prog.Check's errors; none costs a tick.
func wrongProgs() map[string][]op.Op {
	return map[string][]op.Op{
		"too many":     make([]op.Op, api.MaxOps+1),
		"no kind":      {{}},
		"arg":          {{Kind: op.Close}, {Kind: op.Lock, N: api.MaxLocks}},
		"no case":      {{Kind: op.Select}},
		"a case twice": {{Kind: op.Select, Cases: []op.Case{{Chan: 1}, {Chan: 1}}}},
		"order":        {{Kind: op.Close}, {Kind: op.End}},
		"open":         {{Kind: op.Lock}},
		"long":         {{Kind: op.Loop, N: 32}, {Kind: op.Loop, N: 32}, {Kind: op.Close}, {Kind: op.End}, {Kind: op.End}},
	}
}

// errorOf is the error of each of wrongProgs.
var errorOf = map[string]api.Errno{
	"too many": api.ErrMany, "no kind": api.ErrName, "arg": api.ErrArg, "no case": api.ErrMany,
	"a case twice": api.ErrTwice, "order": api.ErrOrder, "open": api.ErrOrder, "long": api.ErrLong,
}

// wrong is what Check must answer, written down from the promise.
func wrong(s set.Set) (int, api.Errno) {
	switch {
	case s.Locks < 0, s.Locks > 8:
		return 0, api.ErrArg
	case len(s.Chans) > 8, len(s.Tasks) < 1, len(s.Tasks) > 12:
		return 0, api.ErrMany
	}
	for _, c := range s.Chans {
		if c.Room < 0 || c.Room > 16 || c.Server < -1 || c.Server > len(s.Tasks)-1 {
			return 0, api.ErrArg
		}
	}
	for i, task := range s.Tasks {
		if e := wrongTask(s, i, task); e != api.OK {
			return i, e
		}
	}
	return 0, api.OK
}

func wrongTask(s set.Set, i int, task set.Task) api.Errno {
	if n := len(task.Name); n < 1 || n > 8 || strings.Trim(task.Name, "abcdefghijklmnopqrstuvwxyz") != "" {
		return api.ErrName
	}
	for _, earlier := range s.Tasks[:i] {
		if earlier.Name == task.Name {
			return api.ErrTwice
		}
	}
	if task.Period < 1 || task.Period > 1<<40 || task.Deadline < 1 || task.Deadline > task.Period || task.Budget < 1 || task.Budget > task.Deadline {
		return api.ErrArg
	}
	if _, e := prog.Check(task.Prog); e != api.OK {
		return e
	}
	if prog.Cost(task.Prog) == 0 {
		return api.ErrShort
	}
	locks, chans := named(task.Prog)
	if locks >= int64(s.Locks) || chans >= int64(len(s.Chans)) {
		return api.ErrName
	}
	return api.OK
}

// named is the greatest lock and the greatest channel of p; -1 if it has none.
func named(p []op.Op) (lock, channel int64) {
	lock, channel = -1, -1
	for _, o := range p {
		switch o.Kind {
		case op.Lock, op.Unlock:
			lock = max(lock, o.N)
		case op.Send, op.Recv, op.Close:
			channel = max(channel, o.N)
		}
		for _, c := range o.Cases {
			channel = max(channel, int64(c.Chan))
		}
	}
	return lock, channel
}

// callAll calls each face with s, and with each of its tasks.
func callAll(s set.Set) string {
	var all strings.Builder
	all.WriteString(fmt.Sprintln(set.Waits(s), set.Same(s, s)))
	all.WriteString(fmt.Sprintln(set.Check(s)))
	all.WriteString(fmt.Sprintln(set.Find(s, "")))
	all.WriteString(fmt.Sprintln(set.Find(s, "nobody")))
	for _, task := range s.Tasks {
		all.WriteString(fmt.Sprintln(set.Need(task)))
		all.WriteString(fmt.Sprintln(set.Find(s, task.Name)))
	}
	return all.String()
}

func TestCheckOfWhatIsTaken(t *testing.T) {
	takes(t, made(t))
	takes(t, alone(t, 0, 0, "run 1"))
	takes(t, set.Set{Tasks: []set.Task{{Name: "a", Period: 1, Deadline: 1, Budget: 1, Prog: ops(t, "run 1")}}})
}

func TestCheckOfLocks(t *testing.T) {
	for locks, want := range map[int]api.Errno{
		math.MinInt: api.ErrArg, -8: api.ErrArg, -2: api.ErrArg, -1: api.ErrArg, 0: api.OK, 1: api.OK, 7: api.OK,
		api.MaxLocks: api.OK, api.MaxLocks + 1: api.ErrArg, 100: api.ErrArg, 1 << 32: api.ErrArg, math.MaxInt: api.ErrArg,
	} {
		tells(t, alone(t, locks, 0, "run 1"), 0, want)
		s := many(t, 3)
		s.Locks = locks
		tells(t, s, 0, want)
	}
}

func TestCheckOfHowManyChans(t *testing.T) {
	for n, want := range map[int]api.Errno{0: api.OK, 1: api.OK, 7: api.OK, api.MaxChans: api.OK, api.MaxChans + 1: api.ErrMany, 12: api.ErrMany, 10000: api.ErrMany} {
		tells(t, alone(t, 0, n, "run 1"), 0, want)
		s := many(t, 3)
		s.Chans = make([]set.Chan, n)
		tells(t, s, 0, want)
	}
}

func TestCheckOfHowManyTasks(t *testing.T) {
	for n, want := range map[int]api.Errno{0: api.ErrMany, 1: api.OK, 2: api.OK, 11: api.OK, api.MaxTasks: api.OK, api.MaxTasks + 1: api.ErrMany, 600: api.ErrMany} {
		tells(t, many(t, n), 0, want)
	}
	tells(t, set.Set{}, 0, api.ErrMany)
	tells(t, set.Set{Locks: 8, Chans: make([]set.Chan, 8)}, 0, api.ErrMany)
	tells(t, set.Set{Tasks: make([]set.Task, 0, 5)}, 0, api.ErrMany)
}

func TestCheckOfRoom(t *testing.T) {
	for room, want := range map[int]api.Errno{
		math.MinInt: api.ErrArg, -2: api.ErrArg, -1: api.ErrArg, 0: api.OK, 1: api.OK, 15: api.OK,
		api.MaxRoom: api.OK, api.MaxRoom + 1: api.ErrArg, 1000: api.ErrArg, math.MaxInt: api.ErrArg,
	} {
		for at := range 3 {
			tells(t, changed(t, func(s *set.Set) { s.Chans[at].Room = room }), 0, want)
		}
		s := alone(t, 0, 8, "run 1")
		s.Chans[7].Room = room
		tells(t, s, 0, want)
	}
}

func TestCheckOfServer(t *testing.T) {
	for _, n := range []int{1, 2, 4, api.MaxTasks} {
		for server, want := range map[int]api.Errno{
			math.MinInt: api.ErrArg, -100: api.ErrArg, -2: api.ErrArg, -1: api.OK, 0: api.OK,
			n - 1: api.OK, n: api.ErrArg, n + 1: api.ErrArg, 100: api.ErrArg, math.MaxInt: api.ErrArg,
		} {
			for at := range api.MaxChans {
				s := many(t, n)
				s.Chans = make([]set.Chan, api.MaxChans)
				s.Chans[at].Server = server
				tells(t, s, 0, want)
				s.Chans = s.Chans[:at+1]
				tells(t, s, 0, want)
			}
		}
	}
}

func TestCheckOfName(t *testing.T) {
	for name, want := range map[string]api.Errno{
		"a": api.OK, "zz": api.OK, "abcdefgh": api.OK, "none": api.OK,
		"": api.ErrName, "abcdefghi": api.ErrName, "A": api.ErrName, "a1": api.ErrName, "a b": api.ErrName, " a": api.ErrName,
		"a\n": api.ErrName, "-": api.ErrName, "a\x00": api.ErrName, "\xe9": api.ErrName, "`": api.ErrName, "{": api.ErrName,
	} {
		for at := range 4 {
			place := at
			if want == api.OK {
				place = 0
			}
			tells(t, changed(t, func(s *set.Set) { s.Tasks[at].Name = name }), place, want)
		}
	}
}

func TestCheckOfTwice(t *testing.T) {
	for earlier := range 4 {
		for at := range 4 {
			s := changed(t, func(s *set.Set) { s.Tasks[at].Name = strings.Clone(s.Tasks[earlier].Name) })
			if earlier == at {
				takes(t, s)
			} else {
				tells(t, s, max(at, earlier), api.ErrTwice)
			}
		}
	}
	s := many(t, api.MaxTasks)
	s.Tasks[11].Name = s.Tasks[0].Name
	tells(t, s, 11, api.ErrTwice)
	s.Tasks[5].Name = s.Tasks[0].Name // a third one: the first that has an earlier one
	tells(t, s, 5, api.ErrTwice)
	// A part of an earlier one is another one.
	takes(t, changed(t, func(s *set.Set) { s.Tasks[1].Name, s.Tasks[2].Name = "pum", "pumpp" }))
	// An empty Name is none, however often it is there.
	tells(t, changed(t, func(s *set.Set) { s.Tasks[1].Name, s.Tasks[2].Name = "", "" }), 1, api.ErrName)
}

func TestCheckOfTimes(t *testing.T) {
	ticks := []int64{math.MinInt64, -1, 0, 1, 2, 50, api.MaxTick - 1, api.MaxTick, api.MaxTick + 1, 1 << 41, math.MaxInt64}
	for _, period := range ticks {
		for _, deadline := range ticks {
			for _, budget := range ticks {
				want, place := api.OK, 0
				in := period >= 1 && period <= 1<<40
				in = in && deadline >= 1 && deadline <= period
				in = in && budget >= 1 && budget <= deadline
				for _, at := range []int{0, 3} {
					if !in {
						want, place = api.ErrArg, at
					}
					s := made(t)
					s.Tasks[at].Period, s.Tasks[at].Deadline, s.Tasks[at].Budget = period, deadline, budget
					tells(t, s, place, want)
				}
			}
		}
	}
	// The Cost may be more than the Budget.
	s := alone(t, 0, 0, "loop 32;run 1000;end")
	s.Tasks[0].Period, s.Tasks[0].Deadline, s.Tasks[0].Budget = 1, 1, 1
	takes(t, s)
}

func TestCheckOfProg(t *testing.T) {
	for what, p := range wrongProgs() {
		want := errorOf[what]
		if _, e := prog.Check(p); e != want {
			t.Errorf("P601: Check of %s: %v, not %v", what, e, want)
		}
		for at := range 4 {
			// The task is told, not the op.
			tells(t, changed(t, func(s *set.Set) { s.Tasks[at].Prog = p }), at, want)
			tells(t, changed(t, func(s *set.Set) { s.Tasks[at].Prog = append(ops(t, "run 1"), p...) }), at, want)
		}
	}
}

func TestCheckOfShort(t *testing.T) {
	for s, want := range map[string]api.Errno{
		"":                                    api.ErrShort,
		"close 0":                             api.ErrShort,
		"loop 5;end":                          api.ErrShort,
		"lock 1;unlock 1":                     api.ErrShort,
		"send 0 9 9":                          api.ErrShort,
		"recv 0 -;select 4 recv 1":            api.ErrShort,
		"loop 5;close 2;loop 2;end;end":       api.ErrShort,
		"run 1":                               api.OK,
		"close 0;run 1":                       api.OK,
		"loop 5;close 2;loop 2;run 1;end":     api.ErrOrder,
		"loop 5;loop 2;run 1;end;end;end":     api.ErrOrder,
		"loop 5;close 2;loop 1;run 1;end;end": api.OK,
	} {
		for at := range 4 {
			place := at
			if want == api.OK {
				place = 0
			}
			tells(t, changed(t, func(set *set.Set) { set.Tasks[at].Prog = ops(t, s) }), place, want)
		}
	}
	for _, p := range [][]op.Op{nil, {}, make([]op.Op, 0, 3), ops(t, "run 1")[:0]} {
		tells(t, changed(t, func(s *set.Set) { s.Tasks[2].Prog = p }), 2, api.ErrShort)
	}
}

func TestCheckOfLocksOfOps(t *testing.T) {
	for locks := range api.MaxLocks + 1 {
		for n := range api.MaxLocks {
			want := api.OK
			if n >= locks {
				want = api.ErrName
			}
			s := strings.ReplaceAll("lock N;run 1;unlock N", "N", fmt.Sprint(n))
			tells(t, alone(t, locks, 0, s), 0, want)
			tells(t, alone(t, locks, 8, s), 0, want)
			tells(t, alone(t, locks, 0, "run 1;loop 2;"+s+";end"), 0, want)
			if n > 0 {
				tells(t, alone(t, locks, 0, "lock 0;"+s+";unlock 0"), 0, want)
			}
		}
	}
	// How often it runs, how often it goes round, how long it waits is no lock.
	takes(t, alone(t, 0, 1, "loop 9;run 9;end;send 0 9 9;recv 0 9;close 0;select 9 send 0 9"))
}

func TestCheckOfChansOfOps(t *testing.T) {
	var cases []string
	for _, c := range []string{"recv N", "send N 0"} {
		for _, wait := range []string{"0", "-", "7"} {
			cases = append(cases, "select "+wait+" "+c)
		}
	}
	for _, o := range append(cases, "send N 0 0", "send N 99 -", "recv N 0", "recv N -", "close N") {
		for chans := range api.MaxChans + 1 {
			for n := range api.MaxChans {
				want := api.OK
				if n >= chans {
					want = api.ErrName
				}
				s := strings.ReplaceAll(o, "N", fmt.Sprint(n))
				tells(t, alone(t, 0, chans, "run 1;"+s), 0, want)
				tells(t, alone(t, 8, chans, s+";run 1"), 0, want)
				tells(t, alone(t, 0, chans, "loop 2;"+s+";run 1;end"), 0, want)
			}
		}
	}
}

// Each place among the Cases, the others being of the set's.
func TestCheckOfChansOfEachCase(t *testing.T) {
	for n := 1; n <= api.MaxCases; n++ {
		for at := range n {
			for _, send := range []bool{false, true} {
				o := op.Op{Kind: op.Select, Cases: make([]op.Case, n)}
				for i := range o.Cases {
					o.Cases[i] = op.Case{Chan: i, Send: i%2 == 0}
				}
				s := alone(t, 8, 6, "run 1")
				s.Tasks[0].Prog = append(s.Tasks[0].Prog, o)
				o.Cases[at].Send = send
				for channel, want := range map[int]api.Errno{4: api.OK, 5: api.OK, 6: api.ErrName, 7: api.ErrName} {
					o.Cases[at].Chan = channel
					tells(t, s, 0, want)
				}
			}
		}
	}
}

// Each place among the ops, each place among the tasks.
func TestCheckOfNamesOfEachOp(t *testing.T) {
	for at := range 4 {
		for _, s := range []string{
			"lock 3;unlock 3;run 1;close 0", "run 1;lock 1;lock 3;unlock 3;unlock 1", "run 1;close 3", "close 3;run 1;close 2", "recv 0 0;recv 3 0;run 1;recv 1 0",
			"send 3 1 1;run 1", "select 0 recv 3;run 1;select 0 recv 2", "select 0 recv 1;select 0 recv 0 send 3 1;run 1", "lock 3;run 1;unlock 3",
		} {
			tells(t, changed(t, func(set *set.Set) { set.Tasks[at].Prog = ops(t, s) }), at, api.ErrName)
		}
	}
	tells(t, changed(t, func(s *set.Set) { s.Locks = 2 }), 0, api.ErrName)
	tells(t, changed(t, func(s *set.Set) { s.Locks, s.Tasks[0].Prog = 1, s.Tasks[1].Prog }), 3, api.ErrName)
	tells(t, changed(t, func(s *set.Set) { s.Chans = s.Chans[:2] }), 2, api.ErrName)
	tells(t, changed(t, func(s *set.Set) { s.Chans = nil }), 1, api.ErrName)
}

// fault is one thing that is wrong, at its place in the order of the promise.
type fault struct {
	e    api.Errno
	edit func(s *set.Set)
}

// faultsOfSet is in the order of the promise.
func faultsOfSet() []fault {
	return []fault{
		{api.ErrArg, func(s *set.Set) { s.Locks = api.MaxLocks + 1 }},
		{api.ErrMany, func(s *set.Set) { s.Chans = append(s.Chans, make([]set.Chan, 6)...) }},
		{api.ErrMany, func(s *set.Set) { s.Tasks = append(s.Tasks, make([]set.Task, 9)...) }},
		{api.ErrArg, func(s *set.Set) { s.Chans[2].Room = -1 }},
		{api.ErrArg, func(s *set.Set) { s.Chans[1].Server = 100 }},
	}
}

// faultsOfTask is in the order of the promise; those of its Name and of its Prog
// take the place of one another.
func faultsOfTask(t *testing.T, at int) (names, times, progs []fault) {
	names = []fault{
		{api.ErrName, func(s *set.Set) { s.Tasks[at].Name = "Z" }},
		{api.ErrTwice, func(s *set.Set) { s.Tasks[at].Name = s.Tasks[0].Name }},
	}
	times = []fault{
		{api.ErrArg, func(s *set.Set) { s.Tasks[at].Period = api.MaxTick + 1 }},
		{api.ErrArg, func(s *set.Set) { s.Tasks[at].Deadline = 101 }},
		{api.ErrArg, func(s *set.Set) { s.Tasks[at].Budget = 0 }},
	}
	for what, p := range wrongProgs() {
		progs = append(progs, fault{errorOf[what], func(s *set.Set) { s.Tasks[at].Prog = p }})
	}
	progs = append(progs,
		fault{api.ErrShort, func(s *set.Set) { s.Tasks[at].Prog = nil }},
		fault{api.ErrName, func(s *set.Set) { s.Tasks[at].Prog = ops(t, "run 1;lock 7;unlock 7") }},
		fault{api.ErrName, func(s *set.Set) { s.Tasks[at].Prog = ops(t, "run 1;select 0 recv 0 recv 7") }})
	return names, times, progs
}

func TestTheFirstErrorOfTheSet(t *testing.T) {
	all := faultsOfSet()
	for i, first := range all {
		tells(t, changed(t, first.edit), 0, first.e)
		for _, later := range all[i+1:] {
			tells(t, changed(t, first.edit, later.edit), 0, first.e)
			tells(t, changed(t, later.edit, first.edit), 0, first.e)
		}
	}
	// No task at all: a Server that is a task's number is none then.
	tells(t, set.Set{Locks: -1}, 0, api.ErrArg)
	tells(t, set.Set{Locks: -1, Chans: make([]set.Chan, 9)}, 0, api.ErrArg)
	tells(t, set.Set{Chans: []set.Chan{{Room: -1}}}, 0, api.ErrMany)
	tells(t, set.Set{Chans: []set.Chan{{Server: 0}}}, 0, api.ErrMany)
	tells(t, set.Set{Chans: make([]set.Chan, 9)}, 0, api.ErrMany)
}

// What is wrong with the set or with a channel is told ahead of any task's, and
// no task beside it.
func TestTheSetAheadOfTasks(t *testing.T) {
	for at := 1; at < 4; at++ {
		names, times, progs := faultsOfTask(t, at)
		for _, of := range slices.Concat(names, times, progs) {
			for _, first := range faultsOfSet() {
				tells(t, changed(t, of.edit, first.edit), 0, first.e)
			}
		}
	}
}

func TestTheFirstErrorOfATask(t *testing.T) {
	for at := 1; at < 4; at++ {
		names, times, progs := faultsOfTask(t, at)
		for _, first := range names {
			tells(t, changed(t, first.edit), at, first.e)
			for _, later := range slices.Concat(times, progs) {
				tells(t, changed(t, first.edit, later.edit), at, first.e)
			}
		}
		for _, first := range times {
			tells(t, changed(t, first.edit), at, first.e)
			for _, later := range slices.Concat(times, progs) {
				tells(t, changed(t, first.edit, later.edit), at, first.e)
			}
		}
		for _, first := range progs {
			tells(t, changed(t, first.edit), at, first.e)
		}
	}
}

// What several errors of one Prog are.
func TestTheFirstErrorOfAProg(t *testing.T) {
	// An empty Name is none, and an earlier one has it.
	tells(t, changed(t, func(s *set.Set) { s.Tasks[0].Name, s.Tasks[1].Name = "", "" }), 0, api.ErrName)
	for s, want := range map[string]api.Errno{
		"lock 7;unlock 7":                        api.ErrShort, // and a lock that is none
		"close 7;recv 7 -":                       api.ErrShort,
		"select 0 recv 7":                        api.ErrShort,
		"unlock 7":                               api.ErrOrder, // and no tick
		"run 1;lock 7":                           api.ErrOrder, // and a lock that is none
		"run 1;close 7;end":                      api.ErrOrder,
		"loop 32;loop 32;close 7;end;end":        api.ErrLong,
		"loop 32;loop 32;run 1;end;end;recv 7 0": api.ErrLong,
	} {
		tells(t, changed(t, func(set *set.Set) { set.Tasks[2].Prog = ops(t, s) }), 2, want)
	}
	for what, p := range wrongProgs() {
		with := append(ops(t, "lock 7;unlock 7;close 7;run 1"), p...)
		tells(t, changed(t, func(s *set.Set) { s.Tasks[2].Prog = with }), 2, errorOf[what])
	}
}

// Of two tasks the first one's error is told, whatever the other's is.
func TestTheFirstTaskIsTold(t *testing.T) {
	for first := range 3 {
		names, times, progs := faultsOfTask(t, first)
		if first == 0 {
			names = names[:1]
		}
		for later := first + 1; later < 4; later++ {
			laterNames, laterTimes, laterProgs := faultsOfTask(t, later)
			for _, a := range slices.Concat(names, times, progs) {
				for _, b := range slices.Concat(laterNames, laterTimes, laterProgs) {
					tells(t, changed(t, b.edit, a.edit), first, a.e)
				}
			}
		}
	}
}

// The Name that a later task has too is the later one's fault, even where it is
// the earlier one's that is wrong otherwise.
func TestTwiceIsOfTheLaterOne(t *testing.T) {
	twice := func(s *set.Set) { s.Tasks[1].Name, s.Tasks[3].Name = "same", "same" }
	tells(t, changed(t, twice), 3, api.ErrTwice)
	tells(t, changed(t, twice, func(s *set.Set) { s.Tasks[2].Budget = 0 }), 2, api.ErrArg)
	tells(t, changed(t, twice, func(s *set.Set) { s.Tasks[1].Prog = nil }), 1, api.ErrShort)
}

func TestNeed(t *testing.T) {
	for s, cost := range map[string]int64{"run 1": 1, "run 5": 5, "run 2;loop 3;run 1;end": 5, "loop 3;loop 4;run 10;end;end": 120, "": 0, "close 1": 0, "loop 32;loop 16;run 1000;end;end": 512000} {
		for _, budget := range []int64{1, 4, 5, 6, 119, 120, 121, 511999, 512000, 512001, api.MaxTick} {
			task := set.Task{Name: "a", Period: api.MaxTick, Deadline: api.MaxTick, Budget: budget, Prog: ops(t, s)}
			if got := set.Need(task); got != min(cost, budget) {
				t.Errorf("P701: Need(%+v): %d, not %d", task, got, min(cost, budget))
			}
			// Nothing else of the task matters.
			if got := set.Need(set.Task{Budget: budget, Prog: task.Prog}); got != min(cost, budget) {
				t.Errorf("P701: Need without a name and a period: %d, not %d", got, min(cost, budget))
			}
		}
	}
	for i, want := range []int64{3, 60, 1, 7} {
		if got := set.Need(made(t).Tasks[i]); got != want {
			t.Errorf("P701: Need of task %d: %d, not %d", i, got, want)
		}
	}
}

func finds(t *testing.T, s set.Set, name string, want int, found bool) {
	t.Helper()
	if at, ok := set.Find(s, name); at != want || ok != found {
		t.Errorf("P701: Find(%q): %d, %v, not %d, %v", name, at, ok, want, found)
	}
}

func TestFind(t *testing.T) {
	s := made(t)
	for i, task := range s.Tasks {
		finds(t, s, strings.Clone(task.Name), i, true)
	}
	for _, name := range []string{"", "x", "pum", "pumpp", "PUMP", "Pump", " pump", "lo", "zz", "pump\x00"} {
		finds(t, s, name, 0, false)
	}
	finds(t, set.Set{}, "pump", 0, false)
	finds(t, set.Set{Tasks: []set.Task{}}, "", 0, false)
	finds(t, set.Set{Tasks: s.Tasks[:2]}, "log", 0, false) // in the spare room
}

func TestFindOfWhatCheckRefuses(t *testing.T) {
	s := set.Set{Locks: -9, Chans: make([]set.Chan, 20), Tasks: make([]set.Task, 20)}
	finds(t, s, "", 0, true)
	finds(t, s, "a", 0, false)
	s.Tasks[0].Name, s.Tasks[1].Name, s.Tasks[3].Name, s.Tasks[19].Name = "A B", "two", "two", "the last one of all"
	finds(t, s, "A B", 0, true)
	finds(t, s, "two", 1, true) // the first of them
	finds(t, s, "", 2, true)
	finds(t, s, "the last one of all", 19, true)
	finds(t, s, "the last one", 0, false)
}

// edits is sets that differ from made each in one thing alone.
func edits(t *testing.T) map[string]func(s *set.Set) {
	all := map[string]func(s *set.Set){
		"locks":               func(s *set.Set) { s.Locks++ },
		"locks below 0":       func(s *set.Set) { s.Locks = -s.Locks },
		"no chan":             func(s *set.Set) { s.Chans = nil },
		"a chan less":         func(s *set.Set) { s.Chans = s.Chans[:2] },
		"a chan more":         func(s *set.Set) { s.Chans = append(s.Chans, set.Chan{}) },
		"not the first":       func(s *set.Set) { s.Chans = s.Chans[1:] },
		"chans turned":        func(s *set.Set) { slices.Reverse(s.Chans) },
		"no task":             func(s *set.Set) { s.Tasks = nil },
		"a task less":         func(s *set.Set) { s.Tasks = s.Tasks[:3] },
		"a task more":         func(s *set.Set) { s.Tasks = append(s.Tasks, set.Task{}) },
		"not the first one":   func(s *set.Set) { s.Tasks = s.Tasks[1:] },
		"tasks turned":        func(s *set.Set) { slices.Reverse(s.Tasks) },
		"the case is no send": func(s *set.Set) { s.Tasks[2].Prog[1].Cases[1].Send = false },
		"the case's chan":     func(s *set.Set) { s.Tasks[2].Prog[1].Cases[0].Chan = 2 },
		"the case's v":        func(s *set.Set) { s.Tasks[2].Prog[1].Cases[1].V = 3 },
		"a case less":         func(s *set.Set) { s.Tasks[2].Prog[1].Cases = s.Tasks[2].Prog[1].Cases[:1] },
		"a case more": func(s *set.Set) {
			o := &s.Tasks[2].Prog[1]
			o.Cases = append(o.Cases, op.Case{})
		},
		"cases turned": func(s *set.Set) { slices.Reverse(s.Tasks[2].Prog[1].Cases) },
		"a case of another op": func(s *set.Set) {
			s.Tasks[3].Prog[2].Cases = []op.Case{{}}
		},
	}
	for at := range 3 {
		all[fmt.Sprint("room ", at)] = func(s *set.Set) { s.Chans[at].Room++ }
		all[fmt.Sprint("server ", at)] = func(s *set.Set) { s.Chans[at].Server-- }
	}
	for at := range 4 {
		of := func(what string, edit func(task *set.Task)) {
			all[fmt.Sprint(what, " ", at)] = func(s *set.Set) { edit(&s.Tasks[at]) }
		}
		of("name", func(task *set.Task) { task.Name += "x" })
		of("name in capitals", func(task *set.Task) { task.Name = strings.ToUpper(task.Name) })
		of("period", func(task *set.Task) { task.Period++ })
		of("deadline", func(task *set.Task) { task.Deadline++ })
		of("budget", func(task *set.Task) { task.Budget-- })
		of("great period", func(task *set.Task) { task.Period += 1 << 32 })
		of("great deadline", func(task *set.Task) { task.Deadline += 1 << 32 })
		of("great budget", func(task *set.Task) { task.Budget += 1 << 32 })
		of("no op", func(task *set.Task) { task.Prog = nil })
		of("an op less", func(task *set.Task) { task.Prog = task.Prog[:len(task.Prog)-1] })
		of("an op more", func(task *set.Task) { task.Prog = append(task.Prog, op.Op{}) })
		for i := range made(t).Tasks[at].Prog {
			of(fmt.Sprint("kind of op ", i), func(task *set.Task) { task.Prog[i].Kind++ })
			of(fmt.Sprint("n of op ", i), func(task *set.Task) { task.Prog[i].N++ })
			of(fmt.Sprint("v of op ", i), func(task *set.Task) { task.Prog[i].V-- })
			of(fmt.Sprint("wait of op ", i), func(task *set.Task) { task.Prog[i].Wait++ })
		}
	}
	return all
}

func same(t *testing.T, what string, a, b set.Set, want bool) {
	t.Helper()
	if set.Same(a, b) != want || set.Same(b, a) != want {
		t.Errorf("P701: Same: %s: %v, %v, not %v", what, set.Same(a, b), set.Same(b, a), want)
	}
}

func TestSame(t *testing.T) {
	same(t, "alike, nothing shared", made(t), made(t), true)
	all := edits(t)
	for what, edit := range all {
		a, b := made(t), changed(t, edit)
		same(t, what, a, b, false)
		same(t, what+", alike", b, changed(t, edit), true)
		same(t, what+", of itself", b, b, true)
	}
	sets, texts := map[string]set.Set{}, map[string]string{}
	for what, edit := range all {
		sets[what] = changed(t, edit)
		texts[what] = fmt.Sprint(sets[what])
	}
	for a, one := range sets {
		for b, other := range sets {
			same(t, a+" and "+b, one, other, texts[a] == texts[b])
		}
	}
}

func TestSameOfAny(t *testing.T) {
	refused := func() set.Set {
		return set.Set{Locks: -3, Chans: []set.Chan{{-9, -9}, {-9, -9}}, Tasks: []set.Task{{}, {}, {Name: "A", Prog: []op.Op{{}, {Kind: 99, Cases: []op.Case{{V: 3}}}}}}}
	}
	same(t, "refused", refused(), refused(), true)
	for what, edit := range map[string]func(s *set.Set){
		"locks": func(s *set.Set) { s.Locks = -4 }, "room": func(s *set.Set) { s.Chans[1].Room = 9 }, "a task": func(s *set.Set) { s.Tasks[1].Budget = -1 },
		"a field that the kind has not": func(s *set.Set) { s.Tasks[2].Prog[0].Wait = 1 }, "a case": func(s *set.Set) { s.Tasks[2].Prog[1].Cases[0].V = 4 },
	} {
		other := refused()
		edit(&other)
		same(t, "refused: "+what, refused(), other, false)
	}
	same(t, "nothing", set.Set{}, set.Set{}, true)
	same(t, "nothing and something", set.Set{}, made(t), false)
}

func TestWaits(t *testing.T) {
	for _, o := range []string{"send 0 5 W", "recv 0 W", "select W recv 0 send 1 2"} {
		for wait, want := range map[string]bool{"-": true, "0": false, "1": true, "1000": true} {
			s := strings.Replace(o, "W", wait, 1)
			for _, around := range []string{"@", "run 1;@", "@;run 1", "loop 2;run 1;loop 2;@;end;end", "recv 0 0;@;recv 0 0"} {
				for n := 1; n <= 3; n++ {
					for at := range n {
						all := many(t, n)
						all.Tasks[at].Prog = ops(t, strings.Replace(around, "@", s, 1))
						if got := set.Waits(all); got != want {
							t.Errorf("P701: Waits with %s in task %d of %d: %v", s, at, n, got)
						}
					}
				}
			}
		}
	}
	if !set.Waits(made(t)) {
		t.Error("P701: Waits of made: false")
	}
	none := changed(t, func(s *set.Set) { s.Tasks = s.Tasks[:2] })
	if set.Waits(none) || set.Waits(set.Set{}) || set.Waits(many(t, 12)) {
		t.Error("P701: Waits of a set in which nobody waits: true")
	}
}

func TestWaitsOfWhatCheckRefuses(t *testing.T) {
	for _, c := range []struct {
		what string
		p    []op.Op
		want bool
	}{
		{"nothing", nil, false},
		{"a kind that is none", []op.Op{{Wait: 5}, {Kind: 10, Wait: -1}, {Kind: -4, Wait: 1}}, false},
		{"a kind that has no wait", []op.Op{{Kind: op.Run, Wait: 5}, {Kind: op.Close, Wait: -1}, {Kind: op.End, Wait: 3}}, false},
		{"a wait that may not be", []op.Op{{Kind: op.Recv, Wait: -5}}, true},
		{"a loop of no round", []op.Op{{Kind: op.Loop}, {Kind: op.Recv, Wait: -1}, {Kind: op.End}}, true},
		{"behind an end", []op.Op{{Kind: op.End}, {Kind: op.End}, {Kind: op.Select, Wait: 1}}, true},
		{"too many", append(make([]op.Op, 1000), op.Op{Kind: op.Send, N: -8, Wait: 2}), true},
		{"under a lock", []op.Op{{Kind: op.Lock}, {Kind: op.Send, Wait: 2}}, true},
		{"under a lock, at once", []op.Op{{Kind: op.Lock}, {Kind: op.Send}}, false},
		{"only in the spare room", []op.Op{{Kind: op.Run}, {Kind: op.Send, Wait: 2}}[:1], false},
	} {
		for _, s := range []set.Set{
			{Tasks: []set.Task{{Prog: c.p}}},
			{Locks: -1, Tasks: []set.Task{{}, {Prog: []op.Op{{}}}, {Prog: c.p}}},
			{Tasks: append(make([]set.Task, 30), set.Task{Prog: c.p})},
		} {
			if got := set.Waits(s); got != c.want {
				t.Errorf("P701: Waits of %s: %v", c.what, got)
			}
		}
	}
}

// oneOf is mostly the first of all.
func oneOf[T any](r *rand.Rand, rare int, all ...T) T {
	if r.Intn(rare) > 0 {
		return all[0]
	}
	return all[r.Intn(len(all))]
}

// grown is a set that is mostly taken but for some things.
func grown(r *rand.Rand, progs [][]op.Op, rare int) set.Set {
	var s set.Set
	s.Locks = oneOf(r, rare, 8, -1, 0, 1, 7, 9)
	n := oneOf(r, rare, 1+r.Intn(12), 0, 12, 13, 14)
	chans := oneOf(r, rare, 8, 0, 7, 9, 10)
	for range chans {
		s.Chans = append(s.Chans, set.Chan{Room: oneOf(r, 4*rare, r.Intn(17), -1, 0, 16, 17), Server: oneOf(r, 4*rare, r.Intn(n+1)-1, -2, -1, n-1, n)})
	}
	for i := range n {
		name := oneOf(r, 4*rare, string(rune('a'+i)), "", "A", "a", "b", "abcdefgh", "abcdefghi")
		period := oneOf(r, 4*rare, 1+r.Int63n(api.MaxTick), 0, 1, -1, api.MaxTick, api.MaxTick+1)
		deadline := oneOf(r, 4*rare, 1+r.Int63n(max(period, 1)), 0, 1, -1, period, period+1)
		budget := oneOf(r, 4*rare, 1+r.Int63n(max(deadline, 1)), 0, 1, -1, deadline, deadline+1)
		p := progs[r.Intn(oneOf(r, rare, 9, len(progs)))]
		s.Tasks = append(s.Tasks, set.Task{Name: name, Period: period, Deadline: deadline, Budget: budget, Prog: p})
	}
	return s
}

func TestGrownSets(t *testing.T) {
	var progs [][]op.Op
	for _, s := range []string{
		"run 1", "lock 0;run 3;unlock 0", "lock 7;run 1000;unlock 7", "loop 3;run 5;send 0 1 -;end", "recv 7 -;run 2", "close 0;run 1;close 7", // the first nine are taken
		"select 0 recv 0 send 7 3;run 4", "select - send 1 1 recv 2 recv 3 recv 4;run 1", "lock 1;lock 2;run 9;unlock 2;unlock 1",
		"", "close 0", "loop 3;end", "lock 7;unlock 7", "end", "run 1;lock 3", "loop 32;loop 32;run 1;end;end", "run 1;unlock 2",
	} {
		progs = append(progs, ops(t, s))
	}
	for _, p := range wrongProgs() {
		progs = append(progs, p)
	}
	slices.SortStableFunc(progs[9:], func(a, b []op.Op) int { return strings.Compare(fmt.Sprint(a), fmt.Sprint(b)) })
	r := rand.New(rand.NewSource(7))
	met := map[api.Errno]int{}
	for i := range 30000 {
		s := grown(r, progs, 3+i%40)
		at, e := wrong(s)
		met[e]++
		tells(t, s, at, e)
	}
	for _, e := range []api.Errno{api.OK, api.ErrArg, api.ErrMany, api.ErrName, api.ErrTwice, api.ErrShort, api.ErrOrder, api.ErrLong} {
		if met[e] < 50 {
			t.Errorf("the grown sets have too few of %v: %v", e, met)
		}
	}
}

// roomy is s with spare room in each of its lists.
func roomy(s set.Set) set.Set {
	s.Chans = append(slices.Clone(s.Chans), set.Chan{Room: 77}, set.Chan{Server: 78})[:len(s.Chans)]
	tasks := append(slices.Clone(s.Tasks), set.Task{Name: "spare", Prog: []op.Op{{Kind: op.Send, Wait: 3}}}, set.Task{Name: "more"})
	s.Tasks = tasks[:len(s.Tasks)]
	for i := range s.Tasks {
		p := s.Tasks[i].Prog
		p = append(slices.Clone(p), op.Op{Kind: op.Lock, N: 5}, op.Op{Kind: op.Recv, Wait: 9})[:len(p)]
		for j := range p {
			cases := p[j].Cases
			p[j].Cases = append(slices.Clone(cases), op.Case{Chan: 66}, op.Case{V: 67})[:len(cases)]
		}
		s.Tasks[i].Prog = p
	}
	return s
}

// whole is all of s, the spare room of its lists too.
func whole(s set.Set) string {
	var all strings.Builder
	fmt.Fprintln(&all, s.Locks, len(s.Chans), len(s.Tasks), s.Chans[:cap(s.Chans)])
	for _, task := range s.Tasks[:cap(s.Tasks)] {
		fmt.Fprintln(&all, task.Name, task.Period, task.Deadline, task.Budget, len(task.Prog))
		for _, o := range task.Prog[:cap(task.Prog)] {
			fmt.Fprintln(&all, o.Kind, o.N, o.V, o.Wait, len(o.Cases), o.Cases[:cap(o.Cases)])
		}
	}
	return all.String()
}

func TestNothingIsChanged(t *testing.T) {
	all := []set.Set{{}, made(t), many(t, 12), many(t, 13)}
	for _, edit := range edits(t) {
		all = append(all, changed(t, edit))
	}
	for i := range all {
		s, other := roomy(all[i]), roomy(made(t))
		was, otherWas := whole(s), whole(other)
		first := callAll(s)
		set.Same(s, other)
		set.Same(other, s)
		if whole(s) != was || whole(other) != otherWas {
			t.Errorf("P2: %s is changed to %s", was, whole(s))
		}
		if again := callAll(s); again != first {
			t.Errorf("P3: first %s, then %s", first, again)
		}
		// The spare room is no part of it.
		if plain := callAll(all[i]); plain != first {
			t.Errorf("P2: with spare room %s, without it %s", first, plain)
		}
		same(t, "with spare room", s, all[i], true)
	}
}

// Nothing is kept: what is done to a set after a call is seen by the next one.
func TestNothingIsKept(t *testing.T) {
	s := made(t)
	takes(t, s)
	s.Tasks[1].Prog[2].Kind = op.End
	tells(t, s, 1, api.ErrArg)
	s.Tasks[1].Prog[2] = op.Op{Kind: op.Run, N: 1}
	takes(t, s)
	if got := set.Need(s.Tasks[1]); got != 3 {
		t.Errorf("P701: Need: %d, not 3", got)
	}
	s.Tasks[0].Name = "other"
	finds(t, s, "pump", 0, false)
	finds(t, s, "other", 0, true)
}

func TestNoListAndAnEmptyOne(t *testing.T) {
	a := set.Set{Tasks: []set.Task{{Name: "a", Prog: []op.Op{{Kind: op.Run, N: 1}}}, {}}}
	b := set.Set{Chans: []set.Chan{}, Tasks: []set.Task{{Name: "a", Prog: []op.Op{{Kind: op.Run, N: 1, Cases: []op.Case{}}}}, {Prog: []op.Op{}}}}
	same(t, "no list and an empty one", a, b, true)
	same(t, "no task and an empty list", set.Set{}, set.Set{Tasks: []set.Task{}, Chans: make([]set.Chan, 0, 3)}, true)
	for _, s := range []*set.Set{&a, &b} {
		for i := range s.Tasks {
			s.Tasks[i].Period, s.Tasks[i].Deadline, s.Tasks[i].Budget = 9, 9, 9
		}
		s.Tasks[1].Name = "b"
	}
	tells(t, a, 1, api.ErrShort)
	tells(t, b, 1, api.ErrShort)
	if callAll(a) != callAll(b) {
		t.Errorf("P2: of no lists %s, of empty ones %s", callAll(a), callAll(b))
	}
}

// Whatever plain data it is: no call panics, each ends, nothing is changed.
func TestAnyData(t *testing.T) {
	r := rand.New(rand.NewSource(70))
	numbers := []int64{math.MinInt64, -1 << 40, -33, -2, -1, 0, 1, 2, 7, 8, 9, 12, 17, 1000, 1001, 1 << 31, 1 << 40, 1<<40 + 1, math.MaxInt64}
	number := func() int64 { return numbers[r.Intn(len(numbers))] }
	for range 3000 {
		s := set.Set{Locks: int(number())}
		for range r.Intn(10) {
			s.Chans = append(s.Chans, set.Chan{Room: int(number()), Server: int(number())})
		}
		for range r.Intn(14) {
			task := set.Task{Name: []string{"", "a", "b", "\xff", strings.Repeat("a", 9)}[r.Intn(5)], Period: number(), Deadline: number(), Budget: number()}
			for range r.Intn(9) {
				o := op.Op{Kind: r.Intn(12) - 1, N: number(), V: number(), Wait: number()}
				for range r.Intn(3) {
					o.Cases = append(o.Cases, op.Case{Send: r.Intn(2) == 0, Chan: int(number()), V: number()})
				}
				task.Prog = append(task.Prog, o)
			}
			s.Tasks = append(s.Tasks, task)
		}
		was := whole(s)
		first := callAll(s)
		at, e := wrong(s)
		tells(t, s, at, e)
		if whole(s) != was || callAll(s) != first {
			t.Errorf("P2, P3: of %s", was)
		}
	}
}
