package report_test

import (
	"fmt"
	"slices"
	"strings"
	"testing"

	"watchbill/api"
	"watchbill/op"
	"watchbill/report"
	"watchbill/set"
	"watchbill/text"
)

const apart = ";"

// taken is the set of lines, parted by semicolons; set.Check takes it.
func taken(t *testing.T, lines string) set.Set {
	t.Helper()
	s, at, e := text.Parse(strings.ReplaceAll(lines, apart, "\n") + "\n")
	if e != api.OK {
		t.Fatalf("P801: Parse(%q): %d, %v", lines, at, e)
	}
	return s
}

// ops is the program of lines, parted by semicolons.
func ops(t *testing.T, lines string) []op.Op {
	t.Helper()
	var p []op.Op
	for _, line := range strings.Split(lines, apart) {
		o, e := op.Parse(line)
		if e != api.OK {
			t.Fatalf("P502: Parse(%q): %v", line, e)
		}
		p = append(p, o)
	}
	return p
}

// same is of a and b where no list and an empty one are the same.
func same(a, b report.Report) bool {
	return slices.Equal(a.Prios, b.Prios) && slices.Equal(a.Ceils, b.Ceils) &&
		slices.Equal(a.Block, b.Block) && slices.Equal(a.Resp, b.Resp)
}

func ofIs(t *testing.T, s set.Set, want report.Report) {
	t.Helper()
	if got, which, e := report.Of(s); !same(got, want) || which != 0 || e != api.OK {
		t.Errorf("P1301: Of(%v): %v, %d, %v, not %v, 0", s, got, which, e, want)
	}
}

func ofFails(t *testing.T, s set.Set, which int, want api.Errno) {
	t.Helper()
	if got, at, e := report.Of(s); !same(got, report.Report{}) || at != which || e != want {
		t.Errorf("P1301: Of(%v): %v, %d, %v, not nothing, %d, %v", s, got, at, e, which, want)
	}
}

// ordinary is a set in which each list has unlike numbers.
const ordinary = "locks 2;chan 3 -;" +
	"task log 40 35 9;run 5;" +
	"task pump 10 6 3;lock 1;run 2;unlock 1;" +
	"task valve 90 80 7;run 4;lock 1;run 2;unlock 1;run 9;" +
	"task lamp 15 15 6;lock 0;run 3;unlock 0"

func TestOfOrdinarySets(t *testing.T) {
	ofIs(t, taken(t, ordinary), report.Report{
		Prios: []int{2, 4, 1, 3},
		Ceils: []int{3, 4},
		Block: []int64{2, 2, 0, 2},
		Resp:  []int64{14, 4, 24, 7},
	})
	ofIs(t, taken(t, "locks 1;chan 1 -;task a 4 4 4;run 1;task b 6 6 2;run 9;task c 12 12 5;lock 0;run 2;unlock 0;task d 20 20 5;lock 0;run 3;unlock 0"), report.Report{
		Prios: []int{4, 3, 2, 1},
		Ceils: []int{2},
		Block: []int64{0, 0, 3, 0},
		Resp:  []int64{1, 3, 12, 12},
	})
	// Nobody has the lock in the midst.
	ofIs(t, taken(t, "locks 3;task a 90 90 20;lock 2;run 8;unlock 2;lock 0;run 4;unlock 0;task b 50 40 5;lock 0;run 3;unlock 0;run 1;task c 60 30 9;lock 2;run 6;unlock 2"), report.Report{
		Prios: []int{1, 2, 3},
		Ceils: []int{2, 0, 3},
		Block: []int64{0, 8, 8},
		Resp:  []int64{22, 18, 14},
	})
	// Ops that cost nothing, whatever they are.
	ofIs(t, taken(t, "locks 0;chan 0 1;chan 2 -;task a 9 9 9;send 0 5 0;run 1;recv 1 0;task b 20 20 3;loop 2;select 0 recv 0 send 1 -3;run 1;end;close 1"), report.Report{
		Prios: []int{2, 1},
		Block: []int64{0, 0},
		Resp:  []int64{1, 3},
	})
}

func TestOfOneTask(t *testing.T) {
	one := func(ceils []int, resp int64) report.Report {
		return report.Report{Prios: []int{1}, Ceils: ceils, Block: []int64{0}, Resp: []int64{resp}}
	}
	ofIs(t, taken(t, "locks 0;task a 1 1 1;run 1"), one(nil, 1))
	ofIs(t, taken(t, "locks 0;task a 9 9 7;run 1000"), one(nil, 7))
	ofIs(t, taken(t, "locks 1;task a 50 40 30;lock 0;run 20;unlock 0;run 3"), one([]int{1}, 23))
	ofIs(t, taken(t, "locks 3;task a 50 40 40;loop 3;lock 1;run 10;unlock 1;end"), one([]int{0, 1, 0}, 30))
	ofIs(t, taken(t, "locks 8;chan 16 0;task a 1099511627776 1099511627776 1099511627776;lock 7;loop 31;loop 16;run 1000;end;end;unlock 7"), one([]int{0, 0, 0, 0, 0, 0, 0, 1}, 496000))
}

// TestOfMaxTasks: each runs for 1 tick in 24; who stands last, or first, waits
// for all.
func TestOfMaxTasks(t *testing.T) {
	rising, falling, up := "locks 0", "locks 0", []int{}
	for i := range api.MaxTasks {
		rising += fmt.Sprintf(";task %c 24 %d 1;run 1", 'a'+i, 13+i)
		falling += fmt.Sprintf(";task %c 24 %d 1;run 1", 'a'+i, 24-i)
		up = append(up, i+1)
	}
	down, none := slices.Clone(up), make([]int64, api.MaxTasks)
	slices.Reverse(down)
	ofIs(t, taken(t, rising), report.Report{Prios: down, Block: none, Resp: long(up)})
	ofIs(t, taken(t, falling), report.Report{Prios: up, Block: none, Resp: long(down)})
}

func long(l []int) []int64 {
	var all []int64
	for _, n := range l {
		all = append(all, int64(n))
	}
	return all
}

// TestOfMaxLocks: as many tasks as there may be, the first ones go ahead; each
// has one lock, the last four those of the first four.
func TestOfMaxLocks(t *testing.T) {
	lines := "locks 8"
	for i := range api.MaxTasks {
		lines += fmt.Sprintf(";task %c 300 300 9;lock %d;run %d;unlock %d", 'a'+i, i%api.MaxLocks, 1+i%3, i%api.MaxLocks)
	}
	ofIs(t, taken(t, lines), report.Report{
		Prios: []int{12, 11, 10, 9, 8, 7, 6, 5, 4, 3, 2, 1},
		Ceils: []int{12, 11, 10, 9, 8, 7, 6, 5},
		Block: []int64{3, 3, 3, 3, 3, 3, 3, 3, 3, 3, 3, 0},
		Resp:  []int64{4, 6, 9, 10, 12, 15, 16, 18, 21, 22, 24, 24},
	})
	// The last lock alone, and no one.
	const two = ";task a 90 50 9;lock 7;run 4;unlock 7;task b 90 40 9;%srun 2%s"
	ofIs(t, taken(t, "locks 8"+fmt.Sprintf(two, "lock 7;", ";unlock 7")), report.Report{
		Prios: []int{1, 2},
		Ceils: []int{0, 0, 0, 0, 0, 0, 0, 2},
		Block: []int64{0, 4},
		Resp:  []int64{6, 6},
	})
	ofIs(t, taken(t, "locks 8"+fmt.Sprintf(two, "", "")), report.Report{
		Prios: []int{1, 2},
		Ceils: []int{0, 0, 0, 0, 0, 0, 0, 1},
		Block: []int64{0, 0},
		Resp:  []int64{6, 2},
	})
	ofIs(t, taken(t, "locks 8;task a 90 50 9;run 2"), report.Report{
		Prios: []int{1},
		Ceils: make([]int, api.MaxLocks),
		Block: []int64{0},
		Resp:  []int64{2},
	})
}

// TestOfAlikeDeadlines: the first one goes ahead, whatever else they have.
func TestOfAlikeDeadlines(t *testing.T) {
	ofIs(t, taken(t, "locks 1;task a 70 50 9;run 1;task b 60 50 9;lock 0;run 2;unlock 0;task c 50 50 9;lock 0;run 4;unlock 0"), report.Report{
		Prios: []int{3, 2, 1},
		Ceils: []int{2},
		Block: []int64{0, 4, 0},
		Resp:  []int64{1, 7, 7},
	})
}

// TestOfBudgets: a section, a response time is cut off by one.
func TestOfBudgets(t *testing.T) {
	for budget, need := range map[int64]int64{1: 1, 5: 5, 6: 6, 7: 7, 8: 7, 40: 7} {
		section := min(budget, 6)
		ofIs(t, taken(t, fmt.Sprintf("locks 1;task a 90 40 %d;lock 0;run 6;unlock 0;run 1;task b 30 30 9;lock 0;run 3;unlock 0", budget)), report.Report{
			Prios: []int{1, 2},
			Ceils: []int{2},
			Block: []int64{0, section},
			Resp:  []int64{need + 3, 3 + section},
		})
	}
}
