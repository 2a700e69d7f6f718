package ceil_test

import (
	"fmt"
	"math"
	"slices"
	"strings"
	"testing"

	"watchbill/api"
	"watchbill/ceil"
	"watchbill/op"
	"watchbill/set"
)

const apart = ";"

// ops is the program of lines, parted by semicolons.
func ops(t *testing.T, lines string) []op.Op {
	t.Helper()
	var p []op.Op
	for _, line := range strings.Split(lines, apart) {
		o, e := op.Parse(line)
		if e != api.OK {
			t.Fatalf("P502: Parse(%q): %v", line, e)
		}
		p = append(p, o)
	}
	return p
}

// task has, with that Deadline, room for any Budget up to it.
func task(t *testing.T, deadline, budget int64, lines string) set.Task {
	t.Helper()
	return set.Task{Period: api.MaxTick, Deadline: deadline, Budget: budget, Prog: ops(t, lines)}
}

// named is the set of these tasks, each with a name of its own, and one channel.
func named(locks int, tasks ...set.Task) set.Set {
	s := set.Set{Locks: locks, Chans: []set.Chan{{Room: 3, Server: -1}}, Tasks: slices.Clone(tasks)}
	for i := range s.Tasks {
		s.Tasks[i].Name = string(rune('a' + i%26))
	}
	return s
}

// taken is named, of what set.Check takes.
func taken(t *testing.T, locks int, tasks ...set.Task) set.Set {
	t.Helper()
	s := named(locks, tasks...)
	if at, e := set.Check(s); e != api.OK {
		t.Fatalf("P701: Check of %v: %d, %v", s, at, e)
	}
	return s
}

// alike is a set of tasks with these programs; the earlier ones go ahead.
func alike(t *testing.T, locks int, programs ...string) set.Set {
	t.Helper()
	var tasks []set.Task
	for _, lines := range programs {
		tasks = append(tasks, task(t, 10000, 10000, lines))
	}
	return taken(t, locks, tasks...)
}

func ceilings(t *testing.T, s set.Set, want ...int) {
	t.Helper()
	if got := ceil.Of(s); !slices.Equal(got, want) {
		t.Errorf("P1001: Of(%v): %v, not %v", s, got, want)
	}
}

func sections(t *testing.T, s set.Set, lock int, want ...int64) {
	t.Helper()
	if got := ceil.Sections(s, lock); !slices.Equal(got, want) {
		t.Errorf("P1001: Sections(%v, %d): %v, not %v", s, lock, got, want)
	}
}

// callAll is what both answer, of each lock and of those beyond.
func callAll(s set.Set) string {
	all := fmt.Sprint(ceil.Of(s))
	for lock := -2; lock < api.MaxLocks+2; lock++ {
		all += fmt.Sprint(ceil.Sections(s, lock))
	}
	return all
}

// ordinary is a set whose priorities are 1, 4, 3, 2.
func ordinary(t *testing.T) set.Set {
	t.Helper()
	return taken(t, 5,
		task(t, 90, 50, "lock 0;run 4;unlock 0;run 1;lock 3;run 2;unlock 3"),
		task(t, 10, 9, "run 2;lock 1;run 3;lock 2;run 5;unlock 2;unlock 1"),
		task(t, 20, 2, "lock 0;run 8;unlock 0;lock 2;run 1;unlock 2"),
		task(t, 30, 30, "loop 3;lock 1;run 7;unlock 1;end"),
	)
}

func TestOfOrdinarySets(t *testing.T) {
	ceilings(t, ordinary(t), 3, 4, 4, 1, 0)
	ceilings(t, alike(t, 2, "run 1;lock 0;unlock 0", "lock 0;run 2;unlock 0;lock 1;unlock 1"), 2, 1)
	ceilings(t, alike(t, 0, "run 1", "run 2"))
}

func TestOfOneTask(t *testing.T) {
	ceilings(t, alike(t, 0, "run 1"))
	ceilings(t, alike(t, 1, "run 1"), 0)
	ceilings(t, alike(t, 1, "lock 0;run 1;unlock 0"), 1)
	ceilings(t, alike(t, 3, "lock 1;run 1;unlock 1"), 0, 1, 0)
	ceilings(t, alike(t, 8, "lock 0;lock 7;run 1;unlock 7;unlock 0"), 1, 0, 0, 0, 0, 0, 0, 1)
}

func TestOfMaxTasks(t *testing.T) {
	var rising, falling []set.Task
	for i := range int64(api.MaxTasks) {
		lines := fmt.Sprintf("lock %d;run 1;unlock %d", i%8, i%8)
		rising = append(rising, task(t, 10+i, 1, lines))
		falling = append(falling, task(t, 99-i, 1, lines))
	}
	ceilings(t, taken(t, 8, rising...), 12, 11, 10, 9, 8, 7, 6, 5)
	ceilings(t, taken(t, 8, falling...), 9, 10, 11, 12, 5, 6, 7, 8)
}

func TestOfALockThatNoneOneSeveralAllHave(t *testing.T) {
	const none, lock = "run 1", "lock 1;run 1;unlock 1"
	ceilings(t, alike(t, 3, none, none, none), 0, 0, 0)
	ceilings(t, alike(t, 3, lock, none, none), 0, 3, 0)
	ceilings(t, alike(t, 3, none, lock, none), 0, 2, 0)
	ceilings(t, alike(t, 3, none, none, lock), 0, 1, 0)
	ceilings(t, alike(t, 3, none, lock, lock), 0, 2, 0)
	ceilings(t, alike(t, 3, lock, none, lock), 0, 3, 0)
	ceilings(t, alike(t, 3, lock, lock, none), 0, 3, 0)
	ceilings(t, alike(t, 3, lock, lock, lock), 0, 3, 0)
	// The least Deadline is neither the first nor the last one.
	ceilings(t, taken(t, 2, task(t, 50, 1, lock), task(t, 90, 1, lock), task(t, 20, 1, lock), task(t, 70, 1, lock)), 0, 4)
	ceilings(t, taken(t, 2, task(t, 50, 1, lock), task(t, 90, 1, lock), task(t, 20, 1, none), task(t, 70, 1, lock)), 0, 3)
	ceilings(t, taken(t, 2, task(t, 50, 1, none), task(t, 90, 1, lock), task(t, 20, 1, none), task(t, 70, 1, lock)), 0, 2)
}

func TestOfAllLocksAtOnce(t *testing.T) {
	all := "lock 0;lock 1;lock 2;lock 3;lock 4;lock 5;lock 6;lock 7;run 1;unlock 7;unlock 6;unlock 5;unlock 4;unlock 3;unlock 2;unlock 1;unlock 0"
	ceilings(t, alike(t, 8, all), 1, 1, 1, 1, 1, 1, 1, 1)
	ceilings(t, alike(t, 8, "run 1", all, "lock 4;run 1;unlock 4"), 2, 2, 2, 2, 2, 2, 2, 2)
	ceilings(t, alike(t, 8, "lock 4;run 1;unlock 4", all, "lock 0;run 1;unlock 0"), 2, 2, 2, 2, 3, 2, 2, 2)
}

func TestOfALockWithinALoopOrAnother(t *testing.T) {
	ceilings(t, alike(t, 2, "run 1", "loop 5;run 1;lock 1;unlock 1;end"), 0, 1)
	ceilings(t, alike(t, 2, "loop 2;loop 2;loop 2;lock 1;run 1;unlock 1;end;end;end", "run 1"), 0, 2)
	ceilings(t, alike(t, 3, "run 1", "lock 0;lock 2;run 1;unlock 2;unlock 0", "lock 2;run 1;unlock 2"), 2, 0, 2)
	ceilings(t, alike(t, 3, "lock 0;loop 2;lock 2;run 1;unlock 2;end;unlock 0", "lock 1;run 1;unlock 1"), 2, 1, 2)
}

// TestOfOtherNumbers: the number of a Send, a Recv, a Close, a Run, a Loop is
// that of no lock.
func TestOfOtherNumbers(t *testing.T) {
	lines := "run 3;send 0 2 0;recv 0 0;close 0;select 0 recv 0;loop 1;run 2;end"
	ceilings(t, alike(t, 4, lines, "lock 1;run 1;unlock 1"), 0, 1, 0, 0)
	for lock := range 4 {
		sections(t, alike(t, 4, lines), lock, 0)
	}
}

func TestThereIsANumberForEachLock(t *testing.T) {
	for locks := 0; locks <= api.MaxLocks; locks++ {
		programs, want := []string{"run 1"}, make([]int, locks)
		s := alike(t, locks, programs...)
		ceilings(t, s, want...)
		for lock := range locks {
			programs = []string{"run 1", fmt.Sprintf("lock %d;run 5;unlock %d", lock, lock), "run 2"}
			s = alike(t, locks, programs...)
			want[lock] = 2
			ceilings(t, s, want...)
			want[lock] = 0
			for other := range locks {
				if other == lock {
					sections(t, s, other, 0, 5, 0)
				} else {
					sections(t, s, other, 0, 0, 0)
				}
			}
		}
	}
}

func TestSectionsOfOrdinarySets(t *testing.T) {
	s := ordinary(t)
	sections(t, s, 0, 4, 0, 2, 0)
	sections(t, s, 1, 0, 8, 0, 7)
	sections(t, s, 2, 0, 5, 1, 0)
	sections(t, s, 3, 2, 0, 0, 0)
	sections(t, s, 4, 0, 0, 0, 0)
}

// TestSectionsAtMostTheNeed: a section of 8 ticks in a job of 12.
func TestSectionsAtMostTheNeed(t *testing.T) {
	const lines = "run 3;lock 0;run 8;unlock 0;run 1"
	for budget, want := range map[int64]int64{1: 1, 2: 2, 7: 7, 8: 8, 9: 8, 11: 8, 12: 8, 13: 8, 500: 8} {
		sections(t, taken(t, 1, task(t, 500, budget, lines)), 0, want)
	}
	// The whole program is one section: its cost is its Need.
	const whole = "lock 0;run 8;unlock 0"
	for budget, want := range map[int64]int64{1: 1, 7: 7, 8: 8, 9: 8} {
		sections(t, taken(t, 1, task(t, 500, budget, whole)), 0, want)
	}
	// Each task has a Need of its own.
	sections(t, taken(t, 1, task(t, 50, 3, lines), task(t, 50, 50, lines), task(t, 50, 6, whole), task(t, 50, 5, "run 9")), 0, 3, 8, 6, 0)
}

// TestSectionsOfTasksWithoutTheLock: they are told too, in their places.
func TestSectionsOfTasksWithoutTheLock(t *testing.T) {
	s := alike(t, 3, "run 5", "lock 1;run 6;unlock 1", "lock 0;run 7;unlock 0", "run 8", "lock 1;run 9;unlock 1")
	sections(t, s, 0, 0, 0, 7, 0, 0)
	sections(t, s, 1, 0, 6, 0, 0, 9)
	sections(t, s, 2, 0, 0, 0, 0, 0)
}

func TestSectionsOfALockTakenMoreThanOnce(t *testing.T) {
	for lines, want := range map[string]int64{
		"lock 0;run 3;unlock 0;run 90;lock 0;run 5;unlock 0":                  5,
		"lock 0;run 5;unlock 0;run 90;lock 0;run 3;unlock 0":                  5,
		"lock 0;run 3;unlock 0;lock 0;run 9;unlock 0;lock 0;run 4;unlock 0":   9,
		"lock 0;run 3;unlock 0;lock 0;unlock 0":                               3,
		"lock 0;unlock 0;run 2":                                               0,
		"loop 4;lock 0;run 6;unlock 0;end":                                    6, // each round is another section
		"lock 0;loop 4;run 6;end;unlock 0":                                    24,
		"loop 4;run 50;lock 0;run 6;unlock 0;end;lock 0;run 7;unlock 0":       7,
		"lock 0;run 1;loop 3;run 2;loop 2;run 5;end;end;unlock 0;run 99":      37,
		"loop 2;lock 0;loop 3;run 5;end;unlock 0;run 40;end":                  15,
		"lock 0;run 1;lock 1;run 2;lock 2;run 4;unlock 2;unlock 1;unlock 0":   7,
		"lock 0;loop 2;lock 1;run 3;unlock 1;run 10;end;unlock 0":             26,
		"lock 0;run 2;lock 1;unlock 1;unlock 0;lock 1;run 70;unlock 1":        2,
		"lock 0;run 1000;run 1000;unlock 0":                                   2000,
		"lock 0;send 0 9 0;run 2;recv 0 0;close 0;unlock 0;recv 0 -;run 1000": 2,
	} {
		sections(t, alike(t, 3, lines), 0, want)
	}
}

func TestSectionsWithinOtherLocks(t *testing.T) {
	s := alike(t, 4,
		"lock 0;run 1;lock 1;run 2;lock 3;run 4;unlock 3;run 8;unlock 1;run 16;unlock 0;run 32",
		"lock 0;loop 2;run 3;lock 3;run 5;unlock 3;end;unlock 0;lock 3;run 6;unlock 3",
	)
	sections(t, s, 0, 31, 16)
	sections(t, s, 1, 14, 0)
	sections(t, s, 2, 0, 0)
	sections(t, s, 3, 4, 6)
}

func TestSectionsOfALockThatIsNone(t *testing.T) {
	sets := []set.Set{ordinary(t), alike(t, 0, "run 1"), alike(t, 1, "lock 0;run 1;unlock 0"), alike(t, 8, "lock 0;run 2;unlock 0;lock 7;run 3;unlock 7")}
	for _, s := range sets {
		for _, lock := range []int{-1, -2, -s.Locks, -s.Locks - 1, s.Locks, s.Locks + 1, s.Locks + 7, api.MaxLocks, 64, 100,
			math.MinInt, math.MinInt + 1, math.MinInt32, math.MaxInt32, 1 << 32, 1<<32 + 7, -1 << 32, 1 << 62, math.MaxInt - 1, math.MaxInt} {
			if lock >= 0 && lock < s.Locks {
				continue
			}
			sections(t, s, lock)
		}
	}
}

// TestNumbersAtTheBounds: the greatest Budget, the longest section.
func TestNumbersAtTheBounds(t *testing.T) {
	long := "lock 7;loop 31;loop 16;run 1000;end;end;unlock 7"
	s := taken(t, 8, task(t, api.MaxTick, api.MaxTick, long), task(t, api.MaxTick, 495999, long), task(t, 1, 1, long))
	ceilings(t, s, 0, 0, 0, 0, 0, 0, 0, 3)
	sections(t, s, 7, 496000, 495999, 1)
}
