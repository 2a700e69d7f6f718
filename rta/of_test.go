package rta_test

import (
	"fmt"
	"slices"
	"strings"
	"testing"

	"watchbill/api"
	"watchbill/block"
	"watchbill/rta"
	"watchbill/set"
	"watchbill/text"
)

const apart = ";"

// taken is the set of lines, parted by semicolons.
func taken(t *testing.T, lines string) set.Set {
	t.Helper()
	s, at, e := text.Parse(strings.ReplaceAll(lines, apart, "\n") + "\n")
	if e != api.OK {
		t.Fatalf("P801: Parse(%q): %d, %v", lines, at, e)
	}
	return s
}

func ofIs(t *testing.T, s set.Set, i int, want int64) {
	t.Helper()
	if got, e := rta.Of(s, i); got != want || e != api.OK {
		t.Errorf("P1201: Of(%v, %d): %d, %v, not %d", s, i, got, e, want)
	}
}

func ofFails(t *testing.T, s set.Set, i int, want api.Errno) {
	t.Helper()
	if got, e := rta.Of(s, i); got != 0 || e != want {
		t.Errorf("P1201: Of(%v, %d): %d, %v, not 0, %v", s, i, got, e, want)
	}
}

// eachIs is of all tasks, and of the numbers beside them, that none has.
func eachIs(t *testing.T, s set.Set, want ...int64) {
	t.Helper()
	for i, r := range want {
		ofIs(t, s, i, r)
	}
	for _, none := range []int{-1, smallest, len(s.Tasks), len(s.Tasks) + 1, greatest} {
		ofFails(t, s, none, api.ErrArg)
	}
	if len(want) != len(s.Tasks) {
		t.Errorf("there are %d tasks, not %d", len(s.Tasks), len(want))
	}
}

// ordinary is a set whose priorities are 2, 4, 1, 3, whose Needs are 5, 2, 7, 3
// and whose Blocks are 2, 2, 0, 2.
const ordinary = "locks 2;chan 3 -;" +
	"task log 40 35 9;run 5;" +
	"task pump 10 6 3;lock 1;run 2;unlock 1;" +
	"task valve 90 80 7;run 4;lock 1;run 2;unlock 1;run 9;" +
	"task lamp 15 15 6;lock 0;run 3;unlock 0"

func TestOfOrdinarySets(t *testing.T) {
	eachIs(t, taken(t, ordinary), 14, 4, 24, 7)
	eachIs(t, taken(t, "locks 0;task a 4 4 4;run 1;task b 6 6 2;run 9;task c 12 12 5;run 2"), 1, 3, 6)
	eachIs(t, taken(t, "locks 0;task c 12 12 5;run 2;task b 6 6 2;run 9;task a 4 4 4;run 1"), 6, 3, 1)
	eachIs(t, taken(t, "locks 0;task a 20 5 4;run 4;task b 6 6 2;run 2;task c 90 90 9;run 9"), 4, 6, 27)
}

func TestOfOneTask(t *testing.T) {
	eachIs(t, taken(t, "locks 0;task a 1 1 1;run 1"), 1)
	eachIs(t, taken(t, "locks 0;task a 9 9 9;run 1000"), 9)
	eachIs(t, taken(t, "locks 0;task a 50 40 30;run 20"), 20)
	eachIs(t, taken(t, "locks 1;task a 50 40 30;lock 0;run 20;unlock 0;run 3"), 23)
	eachIs(t, taken(t, "locks 1;task a 50 30 30;loop 3;lock 0;run 20;unlock 0;end"), 30)
	eachIs(t, taken(t, "locks 0;task a 1099511627776 1099511627776 1099511627776;loop 31;loop 16;run 1000;end;end"), 496000)
}

// TestOfMaxTasks: each runs for 1 tick in 24; the last, or the first, waits for
// all.
func TestOfMaxTasks(t *testing.T) {
	rising, falling, want := "locks 0", "locks 0", []int64{}
	for i := range api.MaxTasks {
		rising += fmt.Sprintf(";task %c 24 %d 1;run 1", 'a'+i, 13+i)
		falling += fmt.Sprintf(";task %c 24 %d 1;run 1", 'a'+i, 24-i)
		want = append(want, int64(i)+1)
	}
	eachIs(t, taken(t, rising), want...)
	slices.Reverse(want)
	eachIs(t, taken(t, falling), want...)
}

func TestOfMaxTasksAndABlock(t *testing.T) {
	lines, want := "locks 1", []int64{}
	for i := range api.MaxTasks {
		lines += fmt.Sprintf(";task %c 300 300 9;lock 0;run %d;unlock 0", 'a'+i, 1+i%3)
	}
	// Those of 1, 2, 3, 1, .. ticks ahead of it and its own; of those behind it
	// the longest one.
	sum := int64(0)
	for i := range int64(api.MaxTasks) {
		sum += 1 + i%3
		want = append(want, sum+3)
	}
	want[api.MaxTasks-1] = sum
	eachIs(t, taken(t, lines), want...)
}

// TestOfABlock: it counts once, however many rounds there are; its lock need
// not be one of the task's own.
func TestOfABlock(t *testing.T) {
	const low = ";task c 90 90 20;lock 0;run 8;unlock 0"
	eachIs(t, taken(t, "locks 1;task a 10 10 3;run 3;task b 90 80 9;run 5"+low), 3, 8, 19)
	eachIs(t, taken(t, "locks 1;task a 20 11 3;lock 0;run 3;unlock 0;task b 90 80 9;run 5"+low), 11, 16, 16)
	eachIs(t, taken(t, "locks 1;task a 20 20 3;run 3;task b 90 80 9;lock 0;run 5;unlock 0"+low), 3, 16, 16)
	s := taken(t, "locks 1;task a 10 10 3;lock 0;run 3;unlock 0;task b 90 80 9;run 5"+low)
	ofFails(t, s, 0, api.ErrLate)
	ofIs(t, s, 1, 19)
	ofIs(t, s, 2, 19)
}

// TestOfTheNeed: of the task's own, and of those ahead of it, the lesser one of
// cost and Budget.
func TestOfTheNeed(t *testing.T) {
	for budget, need := range map[int64]int64{1: 1, 5: 5, 6: 6, 7: 6, 20: 6} {
		eachIs(t, taken(t, fmt.Sprintf("locks 0;task a 30 30 %d;run 6", budget)), need)
		eachIs(t, taken(t, fmt.Sprintf("locks 0;task a 30 30 %d;run 6;task b 60 60 20;run 4", budget)), need, need+4)
		eachIs(t, taken(t, fmt.Sprintf("locks 0;task a 30 30 4;run 9;task b 60 60 %d;run 6", budget)), 4, need+4)
	}
}

// TestOfPeriods: those ahead ask again once a Period, not once a Deadline.
func TestOfPeriods(t *testing.T) {
	eachIs(t, taken(t, "locks 0;task a 10 5 4;run 4;task b 20 20 6;run 6"), 4, 10)
	eachIs(t, taken(t, "locks 0;task a 9 5 4;run 4;task b 20 20 6;run 6"), 4, 14)
	eachIs(t, taken(t, "locks 0;task a 11 5 4;run 4;task b 20 20 6;run 6"), 4, 10)
}

// TestOfTheDeadline: r is just the Deadline, then one more; the Period is no
// bound.
func TestOfTheDeadline(t *testing.T) {
	const held = ";task c 90 90 20;lock 0;run 8;unlock 0"
	for deadline, e := range map[int]api.Errno{15: api.ErrLate, 16: api.OK, 17: api.OK} {
		s := taken(t, fmt.Sprintf("locks 1;task a 10 6 4;run 4;task b 60 %d 9;run 8", deadline))
		ofIs(t, s, 0, 4)
		if e == api.OK {
			ofIs(t, s, 1, 16)
		} else {
			ofFails(t, s, 1, e)
		}
	}
	ofIs(t, taken(t, "locks 1;task a 30 11 4;lock 0;run 3;unlock 0"+held), 0, 11)
	ofFails(t, taken(t, "locks 1;task a 30 10 4;lock 0;run 3;unlock 0"+held), 0, api.ErrLate)
	ofFails(t, taken(t, "locks 1;task a 30 7 4;lock 0;run 3;unlock 0"+held), 0, api.ErrLate)
	// All of the time is another one's.
	s := taken(t, "locks 0;task a 1 1 1;run 1;task b 90 90 1;run 1")
	ofIs(t, s, 0, 1)
	ofFails(t, s, 1, api.ErrLate)
}

// TestOfTheLeastAndTheGreatest: that of the greatest Deadline, and of these the
// last one, waits for all; wherever it stands.
func TestOfTheLeastAndTheGreatest(t *testing.T) {
	eachIs(t, taken(t, "locks 0;task a 50 50 1;run 1;task b 50 40 2;run 2;task c 50 30 4;run 4"), 7, 6, 4)
	eachIs(t, taken(t, "locks 0;task a 50 40 1;run 1;task b 50 50 2;run 2;task c 50 30 4;run 4"), 5, 7, 4)
	eachIs(t, taken(t, "locks 0;task a 50 30 1;run 1;task b 50 50 2;run 2;task c 50 40 4;run 4"), 1, 7, 5)
	eachIs(t, taken(t, "locks 0;task a 50 50 1;run 1;task b 50 50 2;run 2;task c 50 50 4;run 4"), 1, 3, 7)
	eachIs(t, taken(t, "locks 0;task a 50 40 1;run 1;task b 40 40 2;run 2;task c 60 40 4;run 4"), 1, 3, 7)
}

// TestOfMaxRounds: one ahead takes all of the time, so that r goes up by 1.
func TestOfMaxRounds(t *testing.T) {
	ofFails(t, taken(t, "locks 0;task a 1 1 1;run 1;task b 2000 1000 1;run 1"), 1, api.ErrLate)
	ofFails(t, taken(t, "locks 0;task a 1 1 1;run 1;task b 2000 1001 1;run 1"), 1, api.ErrCap)
	ofFails(t, taken(t, "locks 0;task a 1 1 1;run 1;task b 1099511627776 1099511627776 1;run 1"), 1, api.ErrCap)
	const slow = "locks 0;task a 1000 1000 1000;run 999;task b 1099511627776 1099511627776 1000;"
	eachIs(t, taken(t, slow+"run 998"), 999, 998000)
	eachIs(t, taken(t, slow+"run 999"), 999, 999000)
	ofFails(t, taken(t, slow+"run 1000"), 1, api.ErrCap)
}

// TestOfNumbersAtTheBounds: the greatest Period and Deadline.
func TestOfNumbersAtTheBounds(t *testing.T) {
	const full = " 1099511627776 1099511627776 1099511627776;lock 7;loop 31;loop 16;run 1000;end;end;unlock 7;"
	s := taken(t, strings.TrimSuffix("locks 8;task a"+full+"task b"+full+"task c"+full, apart))
	eachIs(t, s, 2*496000, 3*496000, 3*496000)
}

// TestOfIsFix: of what the chapter names, of each task of some sets.
func TestOfIsFix(t *testing.T) {
	for _, s := range several(t) {
		blocks := block.Of(s)
		for i, task := range s.Tasks {
			r, _, e := rta.Fix(set.Need(task)+blocks[i], ahead(s, i), task.Deadline)
			if got, wrong := rta.Of(s, i); got != r || wrong != e {
				t.Errorf("P1201: Of(%v, %d): %d, %v, not %d, %v", s, i, got, wrong, r, e)
			}
		}
	}
}
