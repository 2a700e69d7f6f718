package block_test

import (
	"fmt"
	"slices"
	"strings"
	"testing"

	"watchbill/api"
	"watchbill/block"
	"watchbill/op"
	"watchbill/set"
)

const apart = ";"

// ops is the program of lines, parted by semicolons.
func ops(t *testing.T, lines string) []op.Op {
	t.Helper()
	var p []op.Op
	for _, line := range strings.Split(lines, apart) {
		o, e := op.Parse(line)
		if e != api.OK {
			t.Fatalf("P502: Parse(%q): %v", line, e)
		}
		p = append(p, o)
	}
	return p
}

// task has, with that Deadline, room for any Budget up to it.
func task(t *testing.T, deadline, budget int64, lines string) set.Task {
	t.Helper()
	return set.Task{Period: api.MaxTick, Deadline: deadline, Budget: budget, Prog: ops(t, lines)}
}

// named is the set of these tasks, each with a name of its own, and one channel.
func named(locks int, tasks ...set.Task) set.Set {
	s := set.Set{Locks: locks, Chans: []set.Chan{{Room: 3, Server: -1}}, Tasks: slices.Clone(tasks)}
	for i := range s.Tasks {
		s.Tasks[i].Name = string(rune('a' + i%26))
	}
	return s
}

// taken is named, of what set.Check takes.
func taken(t *testing.T, locks int, tasks ...set.Task) set.Set {
	t.Helper()
	s := named(locks, tasks...)
	if at, e := set.Check(s); e != api.OK {
		t.Fatalf("P701: Check of %v: %d, %v", s, at, e)
	}
	return s
}

// alike is a set of tasks with these programs; the earlier ones go ahead.
func alike(t *testing.T, locks int, programs ...string) set.Set {
	t.Helper()
	var tasks []set.Task
	for _, lines := range programs {
		tasks = append(tasks, task(t, 10000, 10000, lines))
	}
	return taken(t, locks, tasks...)
}

func blocks(t *testing.T, s set.Set, want ...int64) {
	t.Helper()
	if got := block.Of(s); !slices.Equal(got, want) {
		t.Errorf("P1101: Of(%v): %v, not %v", s, got, want)
	}
}

// section is lines in which one lock is held for so many ticks.
func section(lock int, ticks int64) string {
	return fmt.Sprintf("lock %d;run %d;unlock %d", lock, ticks, lock)
}

// ordinary is a set whose priorities are 1, 4, 3, 2 and whose ceilings are 3,
// 4, 4, 1, 0.
func ordinary(t *testing.T) set.Set {
	t.Helper()
	return taken(t, 5,
		task(t, 90, 50, "lock 0;run 4;unlock 0;run 1;lock 3;run 20;unlock 3"),
		task(t, 10, 9, "run 2;lock 1;run 3;lock 2;run 5;unlock 2;unlock 1"),
		task(t, 20, 2, "lock 0;run 8;unlock 0;lock 2;run 1;unlock 2"),
		task(t, 30, 30, "loop 3;lock 1;run 7;unlock 1;end"),
	)
}

func TestOfOrdinarySets(t *testing.T) {
	blocks(t, ordinary(t), 0, 7, 7, 4)
	const a, b, c, d = "run 1;lock 0;unlock 0", "lock 1;run 6;unlock 1;run 90", "lock 0;run 4;unlock 0", "run 5;lock 1;run 9;unlock 1"
	blocks(t, alike(t, 2, a, b, c, d), 4, 9, 9, 0)
	blocks(t, alike(t, 2, d, c, b, a), 6, 6, 0, 0)
	blocks(t, alike(t, 2, a, c, b, d), 4, 0, 9, 0)
	blocks(t, alike(t, 2, b, d, a, c), 9, 0, 4, 0)
}

func TestOfOneTask(t *testing.T) {
	for _, lines := range []string{"run 1", section(0, 5), "lock 0;unlock 0;run 2", "lock 0;lock 7;run 1;unlock 7;unlock 0", "loop 3;lock 2;run 4;unlock 2;end"} {
		blocks(t, alike(t, 8, lines), 0)
	}
	blocks(t, alike(t, 0, "run 1"), 0)
	blocks(t, taken(t, 1, task(t, 1, 1, section(0, 5))), 0)
}

// TestOfMaxTasks: of all, the last one holds longest; or the first one.
func TestOfMaxTasks(t *testing.T) {
	var rising, falling, parted []string
	for i := range int64(api.MaxTasks) {
		rising = append(rising, section(0, 1+i))
		falling = append(falling, section(0, 50-i))
		parted = append(parted, section(int(i)%api.MaxLocks, 1+i))
	}
	blocks(t, alike(t, 1, rising...), 12, 12, 12, 12, 12, 12, 12, 12, 12, 12, 12, 0)
	blocks(t, alike(t, 1, falling...), 49, 48, 47, 46, 45, 44, 43, 42, 41, 40, 39, 0)
	// Tasks 0 to 3 share their locks with tasks 8 to 11.
	blocks(t, alike(t, 8, parted...), 9, 10, 11, 12, 12, 12, 12, 12, 12, 12, 12, 0)
}

func TestOfMaxTasksTheLastGoesAhead(t *testing.T) {
	var tasks []set.Task
	for i := range int64(api.MaxTasks) {
		tasks = append(tasks, task(t, 99-i, 20, section(int(i)%api.MaxLocks, 1+i)))
	}
	blocks(t, taken(t, 8, tasks...), 0, 1, 2, 3, 4, 4, 4, 4, 4, 4, 4, 4)
}

func TestOfNoLock(t *testing.T) {
	for tasks := 1; tasks <= api.MaxTasks; tasks++ {
		programs := slices.Repeat([]string{"run 7"}, tasks)
		blocks(t, alike(t, 0, programs...), make([]int64, tasks)...)
		blocks(t, alike(t, 1, programs...), make([]int64, tasks)...)
		blocks(t, alike(t, api.MaxLocks, programs...), make([]int64, tasks)...)
	}
}

func TestOfEachLock(t *testing.T) {
	for locks := 1; locks <= api.MaxLocks; locks++ {
		for lock := range locks {
			blocks(t, alike(t, locks, section(lock, 2), "run 9", section(lock, 5)), 5, 5, 0)
		}
	}
	all := "lock 0;lock 1;lock 2;lock 3;lock 4;lock 5;lock 6;run 3;lock 7;run 2;unlock 7;unlock 6;unlock 5;unlock 4;unlock 3;unlock 2;unlock 1;unlock 0"
	blocks(t, alike(t, 8, all, all), 5, 0)
	for lock := range api.MaxLocks - 1 {
		blocks(t, alike(t, 8, section(lock, 1), all), 5, 0)
	}
	blocks(t, alike(t, 8, section(7, 1), all), 2, 0)
	blocks(t, alike(t, 8, all, section(7, 1), section(3, 4)), 4, 4, 0)
}

// TestOfALockThatOnlyOneHas: its ceiling is the priority of the task itself, so
// it holds up nobody.
func TestOfALockThatOnlyOneHas(t *testing.T) {
	blocks(t, alike(t, 3, section(1, 9), "run 1", "run 2"), 0, 0, 0)
	blocks(t, alike(t, 3, "run 1", section(1, 9), "run 2"), 0, 0, 0)
	blocks(t, alike(t, 3, "run 1", "run 2", section(1, 9)), 0, 0, 0)
	blocks(t, alike(t, 3, section(0, 7), section(1, 9), section(2, 8)), 0, 0, 0)
	blocks(t, alike(t, 3, section(0, 7), section(1, 9), section(1, 8)), 0, 8, 0)
}

// TestOfALockThatOnlyGreaterOnesHave: no lesser one can hold it.
func TestOfALockThatOnlyGreaterOnesHave(t *testing.T) {
	blocks(t, alike(t, 2, section(0, 3), section(0, 9), "run 1"), 9, 0, 0)
	blocks(t, alike(t, 2, section(0, 3), section(0, 9), section(1, 5)), 9, 0, 0)
	blocks(t, alike(t, 2, section(0, 3), section(0, 9), section(1, 5), "run 1", section(1, 6)), 9, 0, 6, 6, 0)
	blocks(t, alike(t, 1, section(0, 3), section(0, 4), section(0, 9), "run 1", "run 2"), 9, 9, 0, 0, 0)
}

// TestOfALockThatAGreaterAndALesserOneHave: who lies between has no lock at
// all, and is held up too.
func TestOfALockThatAGreaterAndALesserOneHave(t *testing.T) {
	blocks(t, alike(t, 1, section(0, 3), section(0, 9)), 9, 0)
	blocks(t, alike(t, 1, section(0, 3), "run 1", section(0, 9)), 9, 9, 0)
	blocks(t, alike(t, 1, "run 1", section(0, 3), "run 1", "run 2", section(0, 9), "run 1"), 0, 9, 9, 9, 0, 0)
	blocks(t, alike(t, 2, section(0, 3), section(1, 20), section(0, 9)), 9, 9, 0)
	blocks(t, alike(t, 2, section(0, 3), section(1, 20), section(0, 9), section(1, 30)), 9, 30, 30, 0)
}

// TestOfACeilingAroundTheOwnPriority: task 2 has no lock; that of the last one
// has a ceiling that goes by who else has it.
func TestOfACeilingAroundTheOwnPriority(t *testing.T) {
	const none, held = "run 1", "lock 0;run 9;unlock 0"
	less := alike(t, 1, none, none, none, held, held)
	blocks(t, less, 0, 0, 0, 9, 0)
	just := alike(t, 1, none, none, held, none, held)
	blocks(t, just, 0, 0, 9, 9, 0)
	more := alike(t, 1, none, held, none, none, held)
	blocks(t, more, 0, 9, 9, 9, 0)
	most := alike(t, 1, held, none, none, none, held)
	blocks(t, most, 9, 9, 9, 9, 0)
}

// TestOfSeveralLesserOnes: the greatest section alone, not their sum, wherever
// it lies.
func TestOfSeveralLesserOnes(t *testing.T) {
	blocks(t, alike(t, 1, section(0, 1), section(0, 5), section(0, 9), section(0, 7)), 9, 9, 7, 0)
	blocks(t, alike(t, 1, section(0, 1), section(0, 9), section(0, 5), section(0, 7)), 9, 7, 7, 0)
	blocks(t, alike(t, 1, section(0, 1), section(0, 5), section(0, 7), section(0, 9)), 9, 9, 9, 0)
	blocks(t, alike(t, 1, section(0, 100), section(0, 5), section(0, 5), section(0, 5)), 5, 5, 5, 0)
	blocks(t, alike(t, 1, section(0, 1), "lock 0;run 4;unlock 0;lock 0;run 6;unlock 0;lock 0;run 5;unlock 0"), 6, 0)
	blocks(t, alike(t, 1, section(0, 1), "loop 5;lock 0;run 6;unlock 0;end", "lock 0;loop 2;run 4;end;unlock 0"), 8, 8, 0)
}

func TestOfSeveralLocks(t *testing.T) {
	const both = "lock 0;run 1;unlock 0;lock 1;run 1;unlock 1"
	blocks(t, alike(t, 2, both, section(0, 5), section(1, 9)), 9, 9, 0)
	blocks(t, alike(t, 2, both, section(0, 9), section(1, 5)), 9, 5, 0)
	blocks(t, alike(t, 2, both, "lock 0;run 4;unlock 0;lock 1;run 3;unlock 1"), 4, 0)
	blocks(t, alike(t, 2, both, "lock 0;run 3;unlock 0;lock 1;run 4;unlock 1"), 4, 0)
	// A section within another counts with that one.
	blocks(t, alike(t, 2, both, "lock 0;run 3;lock 1;run 4;unlock 1;run 2;unlock 0"), 9, 0)
	blocks(t, alike(t, 2, section(1, 1), "lock 0;run 3;lock 1;run 4;unlock 1;run 2;unlock 0"), 4, 0)
	blocks(t, alike(t, 2, section(1, 1), section(0, 1), "lock 0;run 3;lock 1;run 4;unlock 1;run 2;unlock 0"), 4, 9, 0)
	// The lock of the longer section has too small a ceiling for task 0.
	blocks(t, alike(t, 3, section(0, 1), section(1, 1), section(2, 1), section(2, 30), section(1, 20), section(0, 10)), 10, 20, 30, 20, 10, 0)
}

// TestOfASectionBeyondTheNeed: the lesser one's Budget ends it.
func TestOfASectionBeyondTheNeed(t *testing.T) {
	for budget, want := range map[int64]int64{1: 1, 2: 2, 7: 7, 8: 8, 9: 8, 12: 8, 13: 8, 500: 8} {
		blocks(t, taken(t, 1,
			task(t, 400, 2, section(0, 300)),
			task(t, 500, budget, "run 3;lock 0;run 8;unlock 0;run 1"),
		), want, 0)
	}
	blocks(t, taken(t, 1,
		task(t, 50, 2, section(0, 300)),
		task(t, 50, 4, section(0, 90)),
		task(t, 50, 50, section(0, 3)),
		task(t, 50, 9, section(0, 1)),
	), 4, 3, 1, 0)
	// Of two sections the longer one is that of the lesser Need.
	blocks(t, taken(t, 2, task(t, 50, 2, "run 1;lock 0;lock 1;unlock 1;unlock 0"), task(t, 60, 5, section(0, 90)), task(t, 60, 9, section(1, 7))), 7, 7, 0)
}

// TestOfTheLeastOne: there is nobody to hold it up, wherever it stands.
func TestOfTheLeastOne(t *testing.T) {
	const held = "lock 0;run 5;unlock 0"
	blocks(t, taken(t, 1, task(t, 90, 9, held), task(t, 80, 9, held), task(t, 70, 9, held)), 0, 5, 5)
	blocks(t, taken(t, 1, task(t, 80, 9, held), task(t, 90, 9, held), task(t, 70, 9, held)), 5, 0, 5)
	blocks(t, taken(t, 1, task(t, 80, 9, held), task(t, 70, 9, held), task(t, 90, 9, held)), 5, 5, 0)
}

// TestOfAlikeDeadlines: the earlier one goes ahead, whatever else they have.
func TestOfAlikeDeadlines(t *testing.T) {
	s := taken(t, 1, task(t, 50, 50, section(0, 3)), task(t, 50, 9, section(0, 7)), task(t, 50, 20, section(0, 5)))
	blocks(t, s, 7, 5, 0)
	s.Tasks[0].Period, s.Tasks[1].Period, s.Tasks[2].Period = 300, 200, 100
	blocks(t, s, 7, 5, 0)
	blocks(t, taken(t, 1, task(t, 50, 9, section(0, 3)), task(t, 49, 9, section(0, 7)), task(t, 50, 9, section(0, 5))), 5, 5, 0)
	blocks(t, taken(t, 1, task(t, 50, 9, section(0, 3)), task(t, 51, 9, section(0, 7)), task(t, 50, 9, section(0, 5))), 7, 0, 7)
}

// TestOfShortSections: there is a lesser one, and it holds for no tick.
func TestOfShortSections(t *testing.T) {
	blocks(t, alike(t, 1, section(0, 9), "lock 0;unlock 0;run 5"), 0, 0)
	blocks(t, alike(t, 1, section(0, 9), "lock 0;send 0 1 0;recv 0 0;unlock 0;run 1", section(0, 1)), 1, 1, 0)
}

func TestThereIsANumberForEachTask(t *testing.T) {
	for tasks := 1; tasks <= api.MaxTasks; tasks++ {
		programs, want := slices.Repeat([]string{"run 2"}, tasks), make([]int64, tasks)
		for last := 1; last < tasks; last++ {
			programs[0], programs[last] = "lock 5;run 1;unlock 5", "lock 5;run 3;unlock 5"
			for i := range want {
				want[i] = 0
				if i < last {
					want[i] = 3
				}
			}
			blocks(t, alike(t, 8, programs...), want...)
			programs[last] = "run 2"
		}
	}
}

// TestNumbersAtTheBounds: the greatest Budget and Deadline, the longest section.
func TestNumbersAtTheBounds(t *testing.T) {
	const long = "lock 7;loop 31;loop 16;run 1000;end;end;unlock 7"
	full := task(t, api.MaxTick, api.MaxTick, long)
	blocks(t, taken(t, 8, full, full, full), 496000, 496000, 0)
	blocks(t, taken(t, 8, full, task(t, api.MaxTick, 495999, long), task(t, 1, 1, long)), 495999, 0, 496000)
	blocks(t, taken(t, 8, full, task(t, api.MaxTick-1, 9, long), task(t, 1, 1, long)), 0, 496000, 496000)
}
