package report_test

import (
	"fmt"
	"math"
	"slices"
	"strings"
	"testing"

	"watchbill/api"
	"watchbill/op"
	"watchbill/report"
	"watchbill/rta"
	"watchbill/set"
)

// five is a set that is taken; the first tasks go ahead.
func five(t *testing.T) set.Set {
	t.Helper()
	lines := "locks 1;chan 2 -;chan 0 1"
	for _, name := range strings.Fields("a b c d e") {
		lines += ";task " + name + " 100 90 50;run 2"
	}
	s := taken(t, lines)
	ofIs(t, s, report.Report{Prios: []int{5, 4, 3, 2, 1}, Ceils: []int{0}, Block: make([]int64, 5), Resp: []int64{2, 4, 6, 8, 10}})
	return s
}

// refused is of s, which set.Check refuses just so.
func refused(t *testing.T, s set.Set, which int, want api.Errno) {
	t.Helper()
	if at, e := set.Check(s); at != which || e != want {
		t.Errorf("P701: Check(%v): %d, %v, not %d, %v", s, at, e, which, want)
	}
	ofFails(t, s, which, want)
}

// TestOfASetThatIsWrong: at the set itself.
func TestOfASetThatIsWrong(t *testing.T) {
	for _, locks := range []int{-1, api.MaxLocks + 1, math.MinInt, math.MaxInt} {
		s := five(t)
		s.Locks = locks
		refused(t, s, 0, api.ErrArg)
	}
	for _, room := range []int{-1, api.MaxRoom + 1, math.MinInt, math.MaxInt} {
		s := five(t)
		s.Chans[1].Room = room
		refused(t, s, 0, api.ErrArg)
	}
	for _, server := range []int{-2, 5, math.MinInt, math.MaxInt} {
		s := five(t)
		s.Chans[1].Server = server
		refused(t, s, 0, api.ErrArg)
	}
	s := five(t)
	s.Chans = make([]set.Chan, api.MaxChans)
	ofIs(t, s, report.Report{Prios: []int{5, 4, 3, 2, 1}, Ceils: []int{0}, Block: make([]int64, 5), Resp: []int64{2, 4, 6, 8, 10}})
	s.Chans = make([]set.Chan, api.MaxChans+1)
	refused(t, s, 0, api.ErrMany)
}

func TestOfNoTaskAndTooMany(t *testing.T) {
	refused(t, set.Set{}, 0, api.ErrMany)
	refused(t, set.Set{Locks: 3, Chans: []set.Chan{}, Tasks: []set.Task{}}, 0, api.ErrMany)
	for _, count := range []int{api.MaxTasks + 1, 20000} {
		tasks := make([]set.Task, count)
		for i := range tasks {
			tasks[i] = set.Task{Name: strings.Repeat(string(rune('a'+i%26)), 1+i%8), Period: 90, Deadline: 90, Budget: 1, Prog: []op.Op{{Kind: op.Run, N: 1}}}
		}
		refused(t, set.Set{Tasks: tasks}, 0, api.ErrMany)
	}
}

// wrong is a task that set.Check refuses.
type wrong struct {
	change func(task *set.Task)
	want   api.Errno
}

// wrongTasks is one or more of each error of set.Check, of a task.
func wrongTasks(t *testing.T) []wrong {
	t.Helper()
	named := func(name string) func(*set.Task) { return func(task *set.Task) { task.Name = name } }
	does := func(p ...op.Op) func(*set.Task) { return func(task *set.Task) { task.Prog = p } }
	lines := func(s string) func(*set.Task) { return does(ops(t, s)...) }
	run, late := op.Op{Kind: op.Run, N: 1}, int64(api.MaxTick+1)
	return []wrong{
		{named(""), api.ErrName}, {named("B"), api.ErrName}, {named("abcdefghi"), api.ErrName},
		{func(task *set.Task) { task.Period = 0 }, api.ErrArg}, {func(task *set.Task) { task.Period = late }, api.ErrArg},
		{func(task *set.Task) { task.Deadline = 0 }, api.ErrArg}, {func(task *set.Task) { task.Deadline = 101 }, api.ErrArg},
		{func(task *set.Task) { task.Budget = 0 }, api.ErrArg}, {func(task *set.Task) { task.Budget = 91 }, api.ErrArg},
		{does(slices.Repeat([]op.Op{run}, api.MaxOps+1)...), api.ErrMany},
		{does(run, op.Op{Kind: 99}), api.ErrName}, {does(op.Op{Kind: op.Run}), api.ErrArg}, {does(run, op.Op{Kind: op.Run, N: 2, Wait: 1}), api.ErrArg},
		{does(run, op.Op{Kind: op.Recv, Wait: -2}), api.ErrArg}, {does(run, op.Op{Kind: op.Send, Wait: 1001}), api.ErrArg},
		{does(run, op.Op{Kind: op.Select, Wait: -1}), api.ErrMany}, {does(run, op.Op{Kind: op.Select, Cases: []op.Case{}}), api.ErrMany},
		{does(run, op.Op{Kind: op.Select, Wait: 3, Cases: make([]op.Case, 2)}), api.ErrTwice},
		{lines("run 1;end"), api.ErrOrder}, {lines("loop 2;run 1"), api.ErrOrder}, {lines("lock 0;run 1"), api.ErrOrder},
		{lines("lock 0;recv 0 -;run 1;unlock 0"), api.ErrOrder}, {lines("loop 17;loop 31;run 1;end;end"), api.ErrLong},
		{does(), api.ErrShort}, {lines("send 0 1 0"), api.ErrShort}, {lines("recv 0 -"), api.ErrShort},
		{lines("run 1;lock 1;unlock 1"), api.ErrName}, {lines("run 1;close 2"), api.ErrName}, {lines("run 1;recv 2 -"), api.ErrName},
		{lines("run 1;select - recv 0 send 2 4"), api.ErrName},
	}
}

// TestOfATaskThatIsWrong: the first one, one in the midst, the last one.
func TestOfATaskThatIsWrong(t *testing.T) {
	for _, is := range wrongTasks(t) {
		for which := range five(t).Tasks {
			s := five(t)
			is.change(&s.Tasks[which])
			refused(t, s, which, is.want)
		}
	}
}

// TestOfSeveralThatAreWrong: the first one is told.
func TestOfSeveralThatAreWrong(t *testing.T) {
	all := wrongTasks(t)
	for at, is := range all {
		s := five(t)
		is.change(&s.Tasks[1])
		all[(at*7+4)%len(all)].change(&s.Tasks[2])
		all[(at*5+9)%len(all)].change(&s.Tasks[4])
		refused(t, s, 1, is.want)
	}
}

func TestOfANameThatIsThereTwice(t *testing.T) {
	for _, pair := range [][2]int{{0, 1}, {0, 4}, {1, 2}, {2, 3}, {1, 4}, {3, 4}} {
		s := five(t)
		s.Tasks[pair[1]].Name = s.Tasks[pair[0]].Name
		refused(t, s, pair[1], api.ErrTwice)
	}
}

// waiting is programs that may wait: each kind of op, each kind of Wait; and
// the same ones that may not.
func waiting() (may, not []string) {
	for _, form := range []string{"run 2;send 0 5 %s", "send 1 0 %s;run 2", "recv 0 %s;run 2", "run 2;recv 1 %s", "run 2;select %s recv 0", "select %s send 1 7 recv 0;run 2",
		"loop 2;run 1;recv 0 %s;end", "loop 1;loop 2;select %s recv 1;end;loop 1;run 2;end;end", "lock 0;run 2;unlock 0;send 0 5 %s", "send 0 1 0;recv 0 0;select 0 recv 0;send 0 1 %s;run 2"} {
		for _, wait := range []string{"-", "1", "2", "999", "1000"} {
			may = append(may, fmt.Sprintf(form, wait))
		}
		not = append(not, fmt.Sprintf(form, "0"))
	}
	return may, not
}

// TestOfOneThatWaits: the first one, one in the midst, the last one.
func TestOfOneThatWaits(t *testing.T) {
	may, _ := waiting()
	for _, lines := range may {
		for which := range five(t).Tasks {
			s := five(t)
			s.Tasks[which].Prog = ops(t, lines)
			ofFails(t, s, which, api.ErrWait)
		}
	}
	ofFails(t, taken(t, "locks 0;chan 0 -;task a 9 9 9;run 1;recv 0 -"), 0, api.ErrWait)
}

// TestOfAWaitOf0: an op that is done at once, or not at all.
func TestOfAWaitOf0(t *testing.T) {
	_, not := waiting()
	for _, lines := range not {
		for which := range five(t).Tasks {
			s := five(t)
			s.Tasks[which].Prog = ops(t, lines)
			ceils := []int{0}
			if strings.HasPrefix(lines, "lock 0") {
				ceils[0] = 5 - which
			}
			ofIs(t, s, report.Report{Prios: []int{5, 4, 3, 2, 1}, Ceils: ceils, Block: make([]int64, 5), Resp: []int64{2, 4, 6, 8, 10}})
		}
	}
}

// TestOfSeveralThatWait: the first one is told, not that which goes ahead.
func TestOfSeveralThatWait(t *testing.T) {
	may, not := waiting()
	for first := range 5 {
		s := five(t)
		for i := range s.Tasks {
			s.Tasks[i].Deadline -= int64(i)
			s.Tasks[i].Prog = ops(t, not[(i+first)%len(not)])
			if i >= first {
				s.Tasks[i].Prog = ops(t, may[(i*3+first)%len(may)])
			}
		}
		ofFails(t, s, first, api.ErrWait)
	}
	s := five(t)
	s.Tasks[1].Prog, s.Tasks[3].Prog = ops(t, may[0]), ops(t, may[7])
	ofFails(t, s, 1, api.ErrWait)
}

// crowded is five with one task that takes all of the first 10 ticks behind
// task at, which is done at 12, by that Deadline.
func crowded(t *testing.T, at int, deadline int64) set.Set {
	t.Helper()
	s := five(t)
	hog := (at + 1) % len(s.Tasks)
	s.Tasks[hog].Deadline, s.Tasks[hog].Budget, s.Tasks[hog].Prog = 10, 10, ops(t, "run 10")
	s.Tasks[at].Deadline, s.Tasks[at].Budget = deadline, 2
	return s
}

// TestOfTheDeadline: a Resp that is just the Deadline, and one more; of the
// first task, of one in the midst, of the last one.
func TestOfTheDeadline(t *testing.T) {
	for at := range 5 {
		ofFails(t, crowded(t, at, 11), at, api.ErrLate)
		for _, deadline := range []int64{12, 13} {
			s := crowded(t, at, deadline)
			r, which, e := report.Of(s)
			if e != api.OK || which != 0 || len(r.Resp) != 5 || r.Resp[at] != 12 || r.Resp[(at+1)%5] != 10 {
				t.Errorf("P1301: Of(%v): %v, %d, %v", s, r, which, e)
			}
		}
	}
	ofFails(t, taken(t, "locks 1;task a 30 10 4;lock 0;run 3;unlock 0;task c 90 90 20;lock 0;run 8;unlock 0"), 0, api.ErrLate)
	ofIs(t, taken(t, "locks 1;task a 30 11 4;lock 0;run 3;unlock 0;task c 90 90 20;lock 0;run 8;unlock 0"),
		report.Report{Prios: []int{2, 1}, Ceils: []int{2}, Block: []int64{8, 0}, Resp: []int64{11, 11}})
}

// TestOfSeveralThatAreLate: the first one is told, not that which goes ahead.
func TestOfSeveralThatAreLate(t *testing.T) {
	for at := range 5 {
		for other := range 5 {
			s := crowded(t, at, 11)
			if hog := (at + 1) % 5; other == hog {
				continue
			}
			s.Tasks[other].Deadline, s.Tasks[other].Budget = 11, 2
			ofFails(t, s, min(at, other), api.ErrLate)
		}
	}
	ofFails(t, taken(t, "locks 0;task c 90 3 3;run 3;task a 1 1 1;run 1;task b 90 2 2;run 2"), 0, api.ErrLate)
}

// TestOfMaxRounds: one ahead takes all of the time, or all but a thousandth.
func TestOfMaxRounds(t *testing.T) {
	const slow = "locks 0;task a 1000 1000 1000;run 999;task b 1099511627776 1099511627776 1000;run "
	_, asked, e := rta.Fix(999, []rta.Load{{Period: 1000, Cost: 999}}, api.MaxTick)
	if asked != api.MaxRounds || e != api.OK {
		t.Errorf("P1201: Fix asks %d times, %v", asked, e)
	}
	ofIs(t, taken(t, slow+"999"), report.Report{Prios: []int{2, 1}, Block: []int64{0, 0}, Resp: []int64{999, 999000}})
	ofFails(t, taken(t, slow+"1000"), 1, api.ErrCap)
	ofFails(t, taken(t, "locks 0;task b 1099511627776 1099511627776 1000;run 1000;task a 1000 1000 1000;run 999"), 0, api.ErrCap)
	ofFails(t, taken(t, "locks 0;task c 1 1 1;run 1;task a 1099511627776 1099511627776 1;run 1;task b 1099511627776 1099511627776 1;run 1"), 1, api.ErrCap)
	ofFails(t, taken(t, "locks 0;task a 1 1 1;run 1;task b 2000 1000 1;run 1"), 1, api.ErrLate)
	ofFails(t, taken(t, "locks 0;task a 1 1 1;run 1;task b 2000 1001 1;run 1"), 1, api.ErrCap)
}

// TestWhichOfTheTimesIsFirst: of a task that is late and one that asks for too
// many rounds the first one.
func TestWhichOfTheTimesIsFirst(t *testing.T) {
	const full, late, slow = ";task a 1 1 1;run 1", ";task b 90 90 1;run 1", ";task c 1099511627776 1099511627776 1;run 1"
	ofFails(t, taken(t, "locks 0"+full+late+slow), 1, api.ErrLate)
	ofFails(t, taken(t, "locks 0"+full+slow+late), 1, api.ErrCap)
	ofFails(t, taken(t, "locks 0"+late+full+slow), 0, api.ErrLate)
	ofFails(t, taken(t, "locks 0"+slow+full+late), 0, api.ErrCap)
	ofFails(t, taken(t, "locks 0"+late+slow+full), 0, api.ErrLate)
	ofFails(t, taken(t, "locks 0"+slow+late+full), 0, api.ErrCap)
}

// TestWhichErrorIsFirst: set.Check's, then ErrWait, then rta.Of's, whichever
// task each is of.
func TestWhichErrorIsFirst(t *testing.T) {
	may, _ := waiting()
	for at := range 4 { // the hog, behind task at, stays as it is
		for other := range 5 {
			s := crowded(t, at, 11)
			if hog := at + 1; other == hog {
				continue
			}
			s.Tasks[other].Prog = ops(t, may[0])
			ofFails(t, s, other, api.ErrWait)
		}
	}
	for _, is := range wrongTasks(t) {
		for which := range 5 {
			s := five(t)
			for i := range s.Tasks {
				s.Tasks[i].Prog = ops(t, may[i])
			}
			s.Tasks[which].Prog = ops(t, "run 2")
			is.change(&s.Tasks[which])
			refused(t, s, which, is.want)
		}
		s := crowded(t, 1, 11)
		is.change(&s.Tasks[4])
		refused(t, s, 4, is.want)
		s.Tasks[0].Prog = ops(t, may[0])
		refused(t, s, 4, is.want)
	}
	s := crowded(t, 0, 11)
	s.Tasks[0].Prog, s.Locks = ops(t, may[0]), -1
	refused(t, s, 0, api.ErrArg)
	s = taken(t, "locks 0;chan 0 -;task b 90 90 1;run 1;task c 2000 1001 1;run 1;task a 1 1 1;run 1;recv 0 3")
	ofFails(t, s, 2, api.ErrWait)
}

// TestOfOneThatWaitsAndIsLate: it is told so, not by its time.
func TestOfOneThatWaitsAndIsLate(t *testing.T) {
	s := crowded(t, 2, 11)
	s.Tasks[2].Prog = ops(t, "run 2;recv 0 -")
	ofFails(t, s, 2, api.ErrWait)
	s.Tasks[2].Prog = ops(t, "run 2;recv 0 0")
	ofFails(t, s, 2, api.ErrLate)
}
