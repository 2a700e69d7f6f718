package order_test

import (
	"fmt"
	"math"
	"math/rand"
	"slices"
	"testing"

	"watchbill/api"
	"watchbill/op"
	"watchbill/order"
	"watchbill/set"
)

const longest = int64(api.MaxTick)

// made is a set whose tasks have those deadlines, and as little else as
// set.Check takes.
func made(deadlines ...int64) set.Set {
	var s set.Set
	for i, d := range deadlines {
		s.Tasks = append(s.Tasks, set.Task{
			Name: string(rune('a' + i%26)), Period: longest, Deadline: d, Budget: 1,
			Prog: []op.Op{{Kind: op.Run, N: 1}},
		})
	}
	return s
}

// taken is made, of deadlines that set.Check takes.
func taken(t *testing.T, deadlines ...int64) set.Set {
	t.Helper()
	s := made(deadlines...)
	if at, e := set.Check(s); e != api.OK {
		t.Fatalf("P701: Check of the deadlines %v: %d, %v", deadlines, at, e)
	}
	return s
}

func deadlines(s set.Set) []int64 {
	var l []int64
	for _, task := range s.Tasks {
		l = append(l, task.Deadline)
	}
	return l
}

// ordered holds Prios against what is written down, and all three against the
// promise.
func ordered(t *testing.T, s set.Set, want ...int) {
	t.Helper()
	if got := order.Prios(s); !slices.Equal(got, want) {
		t.Errorf("P901: Prios of the deadlines %v: %v, not %v", deadlines(s), got, want)
	}
	holds(t, s)
}

// ahead is the promise: the least Deadline, of these the least number, has the
// greater priority.
func ahead(s set.Set, i, j int) bool {
	a, b := s.Tasks[i].Deadline, s.Tasks[j].Deadline
	return a < b || a == b && i < j
}

// model is what all three must answer of each task, counted out one by one.
func model(s set.Set) (prios []int, higher, lower [][]int) {
	n := len(s.Tasks)
	prios, higher, lower = make([]int, n), make([][]int, n), make([][]int, n)
	for i := range n {
		prios[i] = 1
		for j := range n {
			switch {
			case i == j:
			case ahead(s, j, i):
				higher[i] = append(higher[i], j)
			default:
				lower[i] = append(lower[i], j)
				prios[i]++
			}
		}
	}
	return prios, higher, lower
}

func holds(t *testing.T, s set.Set) {
	t.Helper()
	prios, higher, lower := model(s)
	if got := order.Prios(s); !slices.Equal(got, prios) {
		t.Errorf("P901: Prios of the deadlines %v: %v, not %v", deadlines(s), got, prios)
	}
	for i := range s.Tasks {
		if got := order.Higher(s, i); !slices.Equal(got, higher[i]) {
			t.Errorf("P901: Higher of the deadlines %v, task %d: %v, not %v", deadlines(s), i, got, higher[i])
		}
		if got := order.Lower(s, i); !slices.Equal(got, lower[i]) {
			t.Errorf("P901: Lower of the deadlines %v, task %d: %v, not %v", deadlines(s), i, got, lower[i])
		}
	}
}

// sides tells Higher and Lower of each task, and of one beyond at either end.
func sides(s set.Set) string {
	text := ""
	for i := -1; i <= len(s.Tasks); i++ {
		text += fmt.Sprintf("%d%d;", order.Higher(s, i), order.Lower(s, i))
	}
	return text
}

// callAll is what all three answer.
func callAll(s set.Set) string { return fmt.Sprint(order.Prios(s)) + sides(s) }

func TestPriosOfAnOrdinarySet(t *testing.T) {
	ordered(t, taken(t, 80, 20, 50), 1, 3, 2)
	ordered(t, taken(t, 9, 2, 9, 1, 2), 2, 4, 1, 5, 3)
	ordered(t, taken(t, 30, 10), 1, 2)
	ordered(t, taken(t, 10, 30), 2, 1)
}

func TestPriosOfOneTask(t *testing.T) {
	for _, d := range []int64{1, 2, 100, longest - 1, longest} {
		ordered(t, taken(t, d), 1)
	}
}

func TestPriosOfMaxTasks(t *testing.T) {
	rise := []int64{1, 2, 3, 4, 5, 6, 7, 8, 9, 10, 11, 12}
	if len(rise) != api.MaxTasks {
		t.Fatalf("there are %d deadlines, not %d", len(rise), api.MaxTasks)
	}
	ordered(t, taken(t, rise...), 12, 11, 10, 9, 8, 7, 6, 5, 4, 3, 2, 1)
	ordered(t, taken(t, 12, 11, 10, 9, 8, 7, 6, 5, 4, 3, 2, 1), 1, 2, 3, 4, 5, 6, 7, 8, 9, 10, 11, 12)
	ordered(t, taken(t, 7, 7, 7, 7, 7, 7, 7, 7, 7, 7, 7, 7), 12, 11, 10, 9, 8, 7, 6, 5, 4, 3, 2, 1)
	ordered(t, taken(t, 5, 1, 5, 9, 1, 5, 9, 1, 5, 9, 1, 5), 8, 12, 7, 3, 11, 6, 2, 10, 5, 1, 9, 4)
}

func TestPriosOfDeadlinesAlike(t *testing.T) {
	for _, d := range []int64{1, 40, longest} {
		ordered(t, taken(t, d, d), 2, 1)
		ordered(t, taken(t, d, d, d, d), 4, 3, 2, 1)
	}
}

func TestPriosOfDeadlinesAlikeInPart(t *testing.T) {
	ordered(t, taken(t, 5, 5, 3), 2, 1, 3)
	ordered(t, taken(t, 3, 5, 5), 3, 2, 1)
	ordered(t, taken(t, 5, 3, 5), 2, 3, 1)
	ordered(t, taken(t, 4, 6, 4, 6), 4, 2, 3, 1)
	ordered(t, taken(t, 6, 4, 6, 4), 2, 4, 1, 3)
	ordered(t, taken(t, 8, 8, 1, 1), 2, 1, 4, 3)
}

func TestPriosOfTheLeastAndTheGreatest(t *testing.T) {
	ordered(t, taken(t, longest, 1), 1, 2)
	ordered(t, taken(t, 1, longest), 2, 1)
	ordered(t, taken(t, longest, longest-1, 2, 1), 1, 2, 3, 4)
	ordered(t, taken(t, longest, 1, longest, 1), 2, 4, 1, 3)
	// These are alike in their lower 32 bits, or greater there where they are lesser.
	ordered(t, taken(t, 1<<32, 1<<33, 1<<34), 3, 2, 1)
	ordered(t, taken(t, 1<<32, 5, 1<<32+1, 1<<31), 2, 4, 1, 3)
}

// counted are all rows of n numbers from 1 to most.
func counted(n int, most int64) [][]int64 {
	rows := [][]int64{nil}
	for range n {
		var longer [][]int64
		for _, row := range rows {
			for d := int64(1); d <= most; d++ {
				longer = append(longer, append(slices.Clip(row), d))
			}
		}
		rows = longer
	}
	return rows
}

func TestEverySmallSet(t *testing.T) {
	for n := 1; n <= 5; n++ {
		for _, row := range counted(n, 4) {
			holds(t, taken(t, row...))
		}
	}
}

func TestEachHasANumberOfItsOwn(t *testing.T) {
	for _, row := range counted(4, 4) {
		s := taken(t, row...)
		got := order.Prios(s)
		slices.Sort(got)
		if !slices.Equal(got, []int{1, 2, 3, 4}) {
			t.Errorf("P901: Prios of the deadlines %v, sorted: %v", row, got)
		}
	}
}

func TestTheGreatestIsOfTheLeastDeadline(t *testing.T) {
	for _, row := range counted(4, 4) {
		s := taken(t, row...)
		first := slices.Index(row, slices.Min(row))
		if got := order.Prios(s)[first]; got != len(row) {
			t.Errorf("P901: Prios of the deadlines %v: task %d has %d", row, first, got)
		}
		if got := order.Higher(s, first); len(got) != 0 {
			t.Errorf("P901: Higher of the deadlines %v, task %d: %v", row, first, got)
		}
	}
}

func TestHigherAndLower(t *testing.T) {
	for _, c := range []struct {
		deadlines []int64
		want      string
	}{
		{[]int64{5}, "[][];[][];[][];"},
		{[]int64{5, 5}, "[][];[][1];[0][];[][];"},
		{[]int64{6, 5}, "[][];[1][];[][0];[][];"},
		{[]int64{7, 7, 7}, "[][];[][1 2];[0][2];[0 1][];[][];"},
		{[]int64{3, 2, 1}, "[][];[1 2][];[2][0];[][0 1];[][];"},
		{[]int64{1, 2, 3}, "[][];[][1 2];[0][2];[0 1][];[][];"},
		{[]int64{9, 2, 9, 1, 2}, "[][];[1 3 4][2];[3][0 2 4];[0 1 3 4][];[][0 1 2 4];[1 3][0 2];[][];"},
		{[]int64{longest, 1, longest}, "[][];[1][2];[][0 2];[0 1][];[][];"},
	} {
		if got := sides(taken(t, c.deadlines...)); got != c.want {
			t.Errorf("P901: Higher and Lower of the deadlines %v: %s, not %s", c.deadlines, got, c.want)
		}
	}
}

func TestAllOthersStandOnOneSide(t *testing.T) {
	s := taken(t, 5, 1, 5, 9, 1, 5, 9, 1, 5, 9, 1, 5)
	prios := order.Prios(s)
	for i := range s.Tasks {
		higher, lower := order.Higher(s, i), order.Lower(s, i)
		if !slices.IsSorted(higher) || !slices.IsSorted(lower) {
			t.Errorf("P901: task %d: Higher %v, Lower %v: not rising", i, higher, lower)
		}
		for j := range s.Tasks {
			if slices.Contains(higher, j) != (prios[j] > prios[i]) || slices.Contains(lower, j) != (prios[j] < prios[i]) {
				t.Errorf("P901: prios %v: Higher(%d): %v, Lower: %v: task %d", prios, i, higher, lower, j)
			}
		}
		if len(higher)+len(lower) != len(s.Tasks)-1 {
			t.Errorf("P901: task %d: Higher %v, Lower %v: not all the others once", i, higher, lower)
		}
	}
}

func TestOfATaskThatIsNone(t *testing.T) {
	for _, row := range [][]int64{{5}, {5, 3, 9}, {7, 7, 7}, {1, 2, 3, 4, 5, 6, 7, 8, 9, 10, 11, 12}} {
		s, n := taken(t, row...), len(row)
		for _, i := range []int{
			-1, -2, -n, -n - 1, math.MinInt32, math.MinInt, math.MinInt + 1,
			n, n + 1, 2 * n, 100, math.MaxInt32, math.MaxUint32 + 1, math.MaxInt,
		} {
			if got := order.Higher(s, i); len(got) != 0 {
				t.Errorf("P901: Higher of the deadlines %v, task %d: %v", row, i, got)
			}
			if got := order.Lower(s, i); len(got) != 0 {
				t.Errorf("P901: Lower of the deadlines %v, task %d: %v", row, i, got)
			}
		}
	}
}

// TestOnlyDeadlinesCount: what else a task or a set has would, alone, put them
// the other way round.
func TestOnlyDeadlinesCount(t *testing.T) {
	run := func(n int64) []op.Op { return []op.Op{{Kind: op.Run, N: n}} }
	s := set.Set{
		Locks: 2,
		Chans: []set.Chan{{Room: 3, Server: 2}, {Room: 0, Server: 0}},
		Tasks: []set.Task{
			{Name: "z", Period: 900, Deadline: 40, Budget: 40, Prog: run(30)},
			{Name: "y", Period: 800, Deadline: 50, Budget: 30, Prog: run(20)},
			{Name: "x", Period: 90, Deadline: 60, Budget: 20, Prog: run(10)},
			{Name: "w", Period: 60, Deadline: 60, Budget: 1, Prog: run(1)},
		},
	}
	if at, e := set.Check(s); e != api.OK {
		t.Fatalf("P701: Check: %d, %v", at, e)
	}
	ordered(t, s, 4, 3, 2, 1)
	slices.Reverse(s.Tasks)
	ordered(t, s, 2, 1, 3, 4)
}

func TestGrownSets(t *testing.T) {
	r := rand.New(rand.NewSource(9))
	met := map[int]int{}
	for range 5000 {
		row := make([]int64, 1+r.Intn(api.MaxTasks))
		most := []int64{2, 5, 20, longest}[r.Intn(4)]
		for i := range row {
			row[i] = 1 + r.Int63n(most)
		}
		holds(t, taken(t, row...))
		met[len(row)]++
	}
	for n := 1; n <= api.MaxTasks; n++ {
		if met[n] < 100 {
			t.Errorf("only %d sets of %d tasks", met[n], n)
		}
	}
}

// roomy is s with spare room behind each of its lists.
func roomy(s set.Set) set.Set {
	s.Chans = append(make([]set.Chan, 0, len(s.Chans)+3), s.Chans...)
	s.Tasks = append(make([]set.Task, 0, len(s.Tasks)+3), s.Tasks...)
	for i, task := range s.Tasks {
		s.Tasks[i].Prog = append(make([]op.Op, 0, len(task.Prog)+3), task.Prog...)
	}
	for i := range 3 {
		s.Chans[:cap(s.Chans)][len(s.Chans)+i] = set.Chan{Room: 5 + i, Server: i}
		s.Tasks[:cap(s.Tasks)][len(s.Tasks)+i] = set.Task{Name: "room", Deadline: int64(3 - i)}
	}
	return s
}

// whole tells s with its spare room.
func whole(s set.Set) string {
	text := fmt.Sprintf("%d %+v", s.Locks, s.Chans[:cap(s.Chans)])
	for _, task := range s.Tasks[:cap(s.Tasks)] {
		text += fmt.Sprintf(" %q %d %d %d %+v", task.Name, task.Period, task.Deadline, task.Budget, task.Prog[:cap(task.Prog)])
	}
	return text
}

func TestNothingIsChanged(t *testing.T) {
	for _, row := range [][]int64{{5}, {9, 2, 9, 1, 2}, {3, 2, 1}, {1, 2, 3}, {7, 7}, {12, 11, 10, 9, 8, 7, 6, 5, 4, 3, 2, 1}} {
		plain := taken(t, row...)
		s := roomy(plain)
		before, want := whole(s), callAll(plain)
		if got := callAll(s); got != want {
			t.Errorf("P2: the deadlines %v: %s with spare room, %s without", row, got, want)
		}
		if after := whole(s); after != before {
			t.Errorf("P2: the deadlines %v: it was\n%s\nand is\n%s", row, before, after)
		}
	}
}

func TestNothingIsKept(t *testing.T) {
	s := taken(t, 9, 2, 9, 1, 2)
	before := callAll(s)
	s.Tasks[0].Deadline = 1
	if got := order.Prios(s); !slices.Equal(got, []int{5, 3, 1, 4, 2}) {
		t.Errorf("P2: Prios of the deadlines %v: %v", deadlines(s), got)
	}
	s.Tasks[0].Deadline = 9
	if after := callAll(s); after != before {
		t.Errorf("P3: %s at first, then %s", before, after)
	}
}

// spoil overwrites l and its spare room.
func spoil(l []int) {
	for i := range l[:cap(l)] {
		l[:cap(l)][i] = -7
	}
}

func TestAnswersAreNewMemory(t *testing.T) {
	s := taken(t, 9, 2, 9, 1, 2)
	want := callAll(s)
	prios, more := order.Prios(s), order.Prios(s)
	spoil(prios)
	if !slices.Equal(more, []int{2, 4, 1, 5, 3}) {
		t.Errorf("P2: two answers of Prios share memory: %v", more)
	}
	for i := range s.Tasks {
		higher, lower := order.Higher(s, i), order.Lower(s, i)
		higherToo, lowerToo := order.Higher(s, i), order.Lower(s, i)
		told := fmt.Sprint(higherToo, lowerToo)
		spoil(higher)
		spoil(lower)
		if got := fmt.Sprint(higherToo, lowerToo); got != told {
			t.Errorf("P2: two answers of task %d share memory: %s, not %s", i, got, told)
		}
	}
	if got := callAll(s); got != want {
		t.Errorf("P2: %s after the answers were overwritten, not %s", got, want)
	}
}

func TestNoListAndAnEmptyOne(t *testing.T) {
	none, empty := taken(t, 9, 2, 9), taken(t, 9, 2, 9)
	none.Chans, empty.Chans = nil, []set.Chan{}
	if a, b := callAll(none), callAll(empty); a != b {
		t.Errorf("P2: %s with no list of channels, %s with an empty one", a, b)
	}
	for i := range none.Tasks {
		none.Tasks[i].Prog, empty.Tasks[i].Prog = nil, []op.Op{}
	}
	if a, b := callAll(none), callAll(empty); a != b {
		t.Errorf("P2: %s with no programs, %s with empty ones", a, b)
	}
	if a, b := callAll(set.Set{}), callAll(set.Set{Tasks: []set.Task{}}); a != b {
		t.Errorf("P2: %s with no list of tasks, %s with an empty one", a, b)
	}
}

// TestAnyData: of what set.Check refuses only P1, P2 and P3 hold.
func TestAnyData(t *testing.T) {
	many := make([]int64, 3000)
	for i := range many {
		many[i] = int64(i * i % 1009)
	}
	for _, row := range [][]int64{
		nil, {0}, {-1, 0, 1}, {math.MinInt64, math.MaxInt64}, {math.MaxInt64, math.MinInt64, 0, math.MaxInt64},
		make([]int64, api.MaxTasks+1), many,
	} {
		s := roomy(made(row...))
		before, prios := whole(s), order.Prios(s)
		for _, i := range []int{math.MinInt, -1, 0, len(row) / 2, len(row) - 1, len(row), math.MaxInt} {
			order.Higher(s, i)
			order.Lower(s, i)
		}
		if whole(s) != before {
			t.Errorf("P2: the set of the %d tasks is another one", len(row))
		}
		if again := order.Prios(s); !slices.Equal(again, prios) {
			t.Errorf("P3: %d tasks: Prios answers another time another", len(row))
		}
	}
}
