package prog_test

import (
	"math"
	"math/rand"
	"slices"
	"strings"
	"testing"

	"watchbill/api"
	"watchbill/op"
	"watchbill/prog"
)

const apart = ";"

// ops is the program of lines, parted by semicolons.
func ops(t *testing.T, s string) []op.Op {
	t.Helper()
	var p []op.Op
	for _, line := range strings.Split(s, apart) {
		if line == "" {
			continue
		}
		o, e := op.Parse(line)
		if e != api.OK {
			t.Fatalf("P502: Parse(%q): %v", line, e)
		}
		p = append(p, o)
	}
	return p
}

// texts is p in words, whatever is in it.
func texts(p []op.Op) string {
	var all []string
	for _, o := range p {
		all = append(all, op.Text(o))
	}
	return strings.Join(all, apart)
}

// often is s n times.
func often(n int, s string) string { return strings.Repeat(s+apart, n) }

func runs(n int) []op.Op {
	p := make([]op.Op, n)
	for i := range p {
		p[i] = op.Op{Kind: op.Run, N: 1}
	}
	return p
}

func tells(t *testing.T, p []op.Op, at int, want api.Errno) {
	t.Helper()
	if got, e := prog.Check(p); got != at || e != want {
		t.Errorf("P601: Check(%s): %d, %v, not %d, %v", texts(p), got, e, at, want)
	}
}

func takes(t *testing.T, s string) {
	t.Helper()
	tells(t, ops(t, s), 0, api.OK)
}

func refuses(t *testing.T, s string, at int, want api.Errno) {
	t.Helper()
	tells(t, ops(t, s), at, want)
}

// wrongOp is an Op for each of op.Check's errors.
func wrongOp() map[api.Errno]op.Op {
	return map[api.Errno]op.Op{
		api.ErrName:  {},
		api.ErrArg:   {Kind: op.Run, N: 1001},
		api.ErrMany:  {Kind: op.Select},
		api.ErrTwice: {Kind: op.Select, Cases: []op.Case{{Chan: 1}, {Chan: 1}}},
	}
}

// wrong is what Check must answer, written down from the promise with rows of
// locks.
func wrong(p []op.Op) (int, api.Errno) {
	if len(p) > 48 {
		return 0, api.ErrMany
	}
	for i, o := range p {
		if e := op.Check(o); e != api.OK {
			return i, e
		}
	}
	var held []int64
	var began [][]int64
	for i, o := range p {
		bad := false
		switch o.Kind {
		case op.Loop:
			bad = len(began) == 3
			began = append(began, slices.Clone(held))
		case op.End:
			bad = len(began) == 0 || !slices.Equal(began[len(began)-1], held)
			if len(began) > 0 {
				began = began[:len(began)-1]
			}
		case op.Lock:
			for _, h := range held {
				bad = bad || o.N <= h
			}
			held = append(held, o.N)
		case op.Unlock:
			bad = len(held) == 0 || held[len(held)-1] != o.N
			if len(held) > 0 {
				held = held[:len(held)-1]
			}
		case op.Send, op.Recv, op.Select:
			bad = o.Wait != 0 && len(held) > 0
		}
		if bad || i == len(p)-1 && len(held)+len(began) > 0 {
			return i, api.ErrOrder
		}
	}
	if _, all := done(p); !all {
		return 0, api.ErrLong
	}
	return 0, api.OK
}

// done is the ops as they are done, place by place with a count for each open
// Loop; false if they are too many. Every Loop has its End.
func done(p []op.Op) ([]op.Op, bool) {
	type open struct {
		at   int
		left int64
	}
	var all []op.Op
	var loops []open
	for at := 0; at < len(p); at++ {
		switch o := p[at]; o.Kind {
		case op.Loop:
			loops = append(loops, open{at, o.N})
		case op.End:
			last := &loops[len(loops)-1]
			if last.left--; last.left > 0 {
				at = last.at
			} else {
				loops = loops[:len(loops)-1]
			}
		default:
			if len(all) == 512 {
				return nil, false
			}
			all = append(all, o)
		}
	}
	return all, true
}

// section is the longest of a lock over the ops as they are done.
func section(all []op.Op, lock int64) int64 {
	most := int64(0)
	for i, o := range all {
		if o.Kind != op.Lock || o.N != lock {
			continue
		}
		cost := int64(0)
		for _, in := range all[i:] {
			if in.Kind == op.Unlock && in.N == lock {
				break
			}
			if in.Kind == op.Run {
				cost += in.N
			}
		}
		most = max(most, cost)
	}
	return most
}

// matches is what Match must be of each place, by a stack of open Loops.
func matches(p []op.Op) []int {
	all := make([]int, len(p))
	var open []int
	for i, o := range p {
		all[i] = -1
		switch o.Kind {
		case op.Loop:
			open = append(open, i)
		case op.End:
			last := open[len(open)-1]
			open = open[:len(open)-1]
			all[i], all[last] = last, i
		}
	}
	return all
}

// told holds all that is told of a program that Check takes against the ops as
// they are done.
func told(t *testing.T, p []op.Op) {
	t.Helper()
	all, _ := done(p)
	cost, waits := int64(0), false
	var has [api.MaxLocks]bool
	for _, o := range all {
		if o.Kind == op.Run {
			cost += o.N
		}
		if o.Kind == op.Lock {
			has[o.N] = true
		}
		waits = waits || (o.Kind == op.Send || o.Kind == op.Recv || o.Kind == op.Select) && o.Wait != 0
	}
	var locks []int
	for lock, in := range has {
		if in {
			locks = append(locks, lock)
		}
	}
	if got := prog.Flat(p); !slices.EqualFunc(got, all, op.Same) {
		t.Errorf("P601: Flat(%s): %s, not %s", texts(p), texts(got), texts(all))
	}
	if got := prog.Steps(p); got != len(all) {
		t.Errorf("P601: Steps(%s): %d, not %d", texts(p), got, len(all))
	}
	if got := prog.Cost(p); got != cost {
		t.Errorf("P601: Cost(%s): %d, not %d", texts(p), got, cost)
	}
	if got := prog.Waits(p); got != waits {
		t.Errorf("P601: Waits(%s): %v", texts(p), got)
	}
	if got := prog.Locks(p); !slices.Equal(got, locks) {
		t.Errorf("P601: Locks(%s): %v, not %v", texts(p), got, locks)
	}
	for lock := -1; lock <= api.MaxLocks; lock++ {
		if got, want := prog.Section(p, lock), section(all, int64(lock)); got != want {
			t.Errorf("P601: Section(%s, %d): %d, not %d", texts(p), lock, got, want)
		}
	}
	for at, want := range matches(p) {
		if got := prog.Match(p, at); got != want {
			t.Errorf("P601: Match(%s, %d): %d, not %d", texts(p), at, got, want)
		}
	}
}

// callAll calls each face with p.
func callAll(p []op.Op) {
	prog.Check(p)
	prog.Cost(p)
	prog.Steps(p)
	prog.Flat(p)
	prog.Waits(p)
	prog.Locks(p)
	for i := -2; i < len(p)+2; i++ {
		prog.Match(p, i)
	}
	for lock := -1; lock <= api.MaxLocks; lock++ {
		prog.Section(p, lock)
	}
}

func TestCheckOfHowManyOps(t *testing.T) {
	for n, want := range map[int]api.Errno{0: api.OK, 1: api.OK, 2: api.OK, 47: api.OK, api.MaxOps: api.OK, api.MaxOps + 1: api.ErrMany, 50: api.ErrMany, 1000: api.ErrMany, 100000: api.ErrMany} {
		tells(t, runs(n), 0, want)
	}
	tells(t, nil, 0, api.OK)
	tells(t, []op.Op{}, 0, api.OK)
	tells(t, make([]op.Op, 0, 5), 0, api.OK)
	// Whatever else is wrong with it.
	tells(t, make([]op.Op, api.MaxOps+1), 0, api.ErrMany)
	tells(t, ops(t, often(api.MaxOps+1, "end")), 0, api.ErrMany)
	tells(t, ops(t, "loop 32;loop 32;"+often(api.MaxOps-3, "run 1")+"end;end"), 0, api.ErrMany)
}

func TestCheckOfEachOp(t *testing.T) {
	for want, bad := range wrongOp() {
		for _, n := range []int{1, 2, 3, 20, api.MaxOps} {
			for _, at := range []int{0, n / 2, n - 1} {
				p := runs(n)
				p[at] = bad
				tells(t, p, at, want)
			}
		}
	}
}

func TestTheFirstWrongOpIsTold(t *testing.T) {
	for first, a := range wrongOp() {
		for _, b := range wrongOp() {
			p := runs(6)
			p[2], p[4] = a, b
			tells(t, p, 2, first)
			p[0], p[5] = a, b
			tells(t, p, 0, first)
		}
	}
}

// A wrong op, be it the last one, is told ahead of any order.
func TestWrongOpAheadOfOrder(t *testing.T) {
	for _, s := range []string{"end", "unlock 0", "loop 2;loop 2;loop 2;loop 2", "lock 1;lock 0", "lock 1;lock 1", "lock 0;recv 0 -", "loop 2;lock 0;end", "lock 0;loop 2;unlock 0;end", "loop 2", "lock 0", "loop 2;lock 0"} {
		p := ops(t, s)
		_, e := prog.Check(p)
		if e != api.ErrOrder {
			t.Errorf("P601: Check(%s): %v", s, e)
		}
		for want, bad := range wrongOp() {
			tells(t, append(ops(t, s), bad), len(p), want)
			tells(t, append(ops(t, s+";run 1;run 2"), bad, op.Op{Kind: op.End}), len(p)+2, want)
			tells(t, append([]op.Op{bad}, p...), 0, want)
		}
	}
}

func TestWrongOpAheadOfLong(t *testing.T) {
	long := "loop 32;loop 32;run 1;end;end;"
	for want, bad := range wrongOp() {
		tells(t, append(ops(t, long), bad), 5, want)
		tells(t, append([]op.Op{bad}, ops(t, long)...), 0, want)
	}
}

func TestCheckOfEnd(t *testing.T) {
	takes(t, "loop 1;end")
	takes(t, "loop 1;end;loop 2;end;loop 32;end")
	takes(t, "run 1;loop 2;run 1;end;run 1")
	refuses(t, "end", 0, api.ErrOrder)
	refuses(t, "end;end", 0, api.ErrOrder)
	refuses(t, "end;loop 2", 0, api.ErrOrder)
	refuses(t, "run 1;end", 1, api.ErrOrder)
	refuses(t, "run 1;end;run 1", 1, api.ErrOrder)
	refuses(t, "loop 2;end;end", 2, api.ErrOrder)
	refuses(t, "loop 2;loop 2;run 1;end;end;end;loop 2;end", 5, api.ErrOrder)
	refuses(t, "lock 0;end;unlock 0", 1, api.ErrOrder)
}

func TestCheckOfNest(t *testing.T) {
	for depth := 1; depth <= 6; depth++ {
		s := often(depth, "loop 1") + "run 1;" + often(depth, "end")
		if depth <= api.MaxNest {
			takes(t, s)
		} else {
			refuses(t, s, api.MaxNest, api.ErrOrder)
		}
	}
	// As many again, once some are at their End.
	takes(t, "loop 1;loop 1;loop 1;end;loop 1;end;end;loop 1;loop 1;end;end;end;loop 1;loop 1;loop 1;end;end;end")
	refuses(t, "loop 1;loop 1;loop 1;end;loop 1;loop 1;end;end;end;end", 5, api.ErrOrder)
	takes(t, often(api.MaxOps/2, "loop 32;end"))
	refuses(t, "run 1;"+often(40, "loop 1"), 4, api.ErrOrder)
}

func TestCheckOfLock(t *testing.T) {
	for a := range int64(api.MaxLocks) {
		for b := range int64(api.MaxLocks) {
			take, again := op.Op{Kind: op.Lock, N: a}, op.Op{Kind: op.Lock, N: b}
			p := []op.Op{take, again, {Kind: op.Unlock, N: b}, {Kind: op.Unlock, N: a}}
			if b > a {
				tells(t, p, 0, api.OK)
			} else {
				tells(t, p, 1, api.ErrOrder)
			}
			// One behind the other: in any order.
			tells(t, []op.Op{take, {Kind: op.Unlock, N: a}, again, {Kind: op.Unlock, N: b}}, 0, api.OK)
		}
	}
	takes(t, "lock 0;lock 1;lock 2;lock 3;lock 4;lock 5;lock 6;lock 7;unlock 7;unlock 6;unlock 5;unlock 4;unlock 3;unlock 2;unlock 1;unlock 0")
	takes(t, "lock 0;lock 7;unlock 7;lock 1;unlock 1;unlock 0")
	takes(t, "lock 2;lock 4;unlock 4;lock 3;lock 4;unlock 4;unlock 3;unlock 2")
	refuses(t, "lock 2;lock 5;lock 3;unlock 3;unlock 5;unlock 2", 2, api.ErrOrder) // above one, not above all
	refuses(t, "lock 2;lock 5;lock 2;unlock 2;unlock 5;unlock 2", 2, api.ErrOrder)
	refuses(t, "lock 2;lock 5;lock 5;unlock 5;unlock 5;unlock 2", 2, api.ErrOrder)
	refuses(t, "lock 0;loop 2;lock 0;unlock 0;end;unlock 0", 2, api.ErrOrder)
	refuses(t, "lock 7;loop 2;lock 6;unlock 6;end;unlock 7", 2, api.ErrOrder)
	refuses(t, "lock 0;lock 0", 1, api.ErrOrder)
}

func TestCheckOfUnlock(t *testing.T) {
	for n := range int64(api.MaxLocks) {
		tells(t, []op.Op{{Kind: op.Unlock, N: n}}, 0, api.ErrOrder)
		tells(t, []op.Op{{Kind: op.Lock, N: n}, {Kind: op.Unlock, N: n}}, 0, api.OK)
		tells(t, []op.Op{{Kind: op.Lock, N: n}, {Kind: op.Unlock, N: n}, {Kind: op.Unlock, N: n}}, 2, api.ErrOrder)
		for other := range int64(api.MaxLocks) {
			if other != n {
				tells(t, []op.Op{{Kind: op.Lock, N: n}, {Kind: op.Unlock, N: other}, {Kind: op.Unlock, N: n}}, 1, api.ErrOrder)
			}
		}
	}
	refuses(t, "run 1;unlock 3;lock 3", 1, api.ErrOrder)
	refuses(t, "lock 1;lock 4;unlock 1;unlock 4", 2, api.ErrOrder)
	refuses(t, "lock 1;lock 4;lock 6;unlock 4;unlock 6;unlock 1", 3, api.ErrOrder)
	refuses(t, "lock 1;lock 4;lock 6;unlock 1", 3, api.ErrOrder)
	refuses(t, "lock 1;lock 4;unlock 4;unlock 4;unlock 1", 3, api.ErrOrder)
}

func TestCheckOfWaits(t *testing.T) {
	for _, s := range []string{"send 3 5 W", "recv 3 W", "select W recv 3 send 1 2"} {
		for wait, waits := range map[string]bool{"-": true, "0": false, "1": true, "1000": true} {
			o := strings.Replace(s, "W", wait, 1)
			takes(t, o)
			takes(t, "lock 0;unlock 0;"+o)
			takes(t, o+";lock 0;unlock 0")
			takes(t, "loop 2;lock 1;unlock 1;"+o+";end")
			for held, at := range map[string]int{"lock 0;": 1, "lock 7;": 1, "run 1;lock 2;lock 3;": 3, "lock 2;lock 3;unlock 3;": 3, "lock 1;loop 2;": 2, "loop 2;lock 1;": 2} {
				p := ops(t, held+o)
				if waits {
					tells(t, p, at, api.ErrOrder)
					continue
				}
				tells(t, append(p, op.Op{Kind: op.Run, N: 1}), at+1, api.ErrOrder) // only what is open at the end
			}
			if !waits {
				takes(t, "lock 3;"+o+";unlock 3")
				takes(t, "lock 3;loop 2;"+o+";end;unlock 3")
			}
		}
	}
	takes(t, "lock 0;close 3;run 1000;unlock 0")
}

func TestCheckOfLocksAtTheEnd(t *testing.T) {
	refuses(t, "loop 2;lock 0;end;unlock 0", 2, api.ErrOrder)                       // one more
	refuses(t, "lock 0;loop 2;lock 1;run 1;end;unlock 1;unlock 0", 4, api.ErrOrder) // one more beside another
	refuses(t, "lock 0;loop 2;unlock 0;end", 3, api.ErrOrder)                       // one less
	refuses(t, "lock 0;lock 1;loop 2;unlock 1;end;unlock 0", 4, api.ErrOrder)       // one less beside another
	refuses(t, "lock 0;loop 2;unlock 0;lock 1;end;unlock 1", 4, api.ErrOrder)       // another
	refuses(t, "lock 4;loop 1;unlock 4;lock 3;end;unlock 3", 4, api.ErrOrder)       // another, of one round
	refuses(t, "lock 0;lock 2;loop 2;unlock 2;lock 1;end;unlock 1;unlock 0", 5, api.ErrOrder)
	takes(t, "lock 0;loop 2;unlock 0;lock 0;end;unlock 0")
	takes(t, "lock 0;lock 5;loop 2;run 1;unlock 5;run 2;lock 5;end;unlock 5;unlock 0")
	takes(t, "lock 0;lock 5;loop 2;unlock 5;unlock 0;recv 1 -;lock 0;lock 5;end;unlock 5;unlock 0")
	takes(t, "lock 0;loop 2;lock 1;loop 3;lock 2;unlock 2;end;unlock 1;end;unlock 0")
	// The inner Loop's locks are its own; the outer one's are another's.
	takes(t, "loop 2;lock 0;loop 2;end;unlock 0;end")
	takes(t, "lock 0;loop 2;unlock 0;loop 2;lock 3;unlock 3;end;lock 0;end;unlock 0")
	refuses(t, "loop 2;lock 0;loop 2;unlock 0;end;end", 4, api.ErrOrder)
	refuses(t, "loop 2;lock 0;loop 2;end;end;unlock 0", 4, api.ErrOrder)
	refuses(t, "lock 0;loop 2;unlock 0;loop 2;lock 0;end;end;unlock 0", 5, api.ErrOrder)
}

func TestCheckOfWhatIsOpenAtTheLastOp(t *testing.T) {
	for s, at := range map[string]int{
		"loop 2": 0, "loop 2;run 1": 1, "loop 2;loop 2;end": 2, "loop 2;end;loop 2": 2, "loop 1;loop 1;loop 1": 2,
		"lock 0": 0, "lock 0;run 1": 1, "lock 0;lock 1;unlock 1": 2, "lock 7;run 1;run 1": 2, "loop 2;lock 0;unlock 0;end;lock 0": 4,
		"loop 2;lock 0": 1, "lock 0;loop 2": 1, "lock 0;loop 2;run 1;run 1": 3, "lock 0;loop 2;end": 2, "loop 2;lock 0;unlock 0": 2,
	} {
		refuses(t, s, at, api.ErrOrder)
		refuses(t, s+apart+often(9, "run 1"), at+9, api.ErrOrder)
	}
	p := runs(api.MaxOps)
	p[0] = op.Op{Kind: op.Lock}
	tells(t, p, api.MaxOps-1, api.ErrOrder)
}

func TestTheFirstOrderIsTold(t *testing.T) {
	refuses(t, "run 1;end;unlock 0;lock 1;lock 0", 1, api.ErrOrder)
	refuses(t, "run 1;unlock 0;end", 1, api.ErrOrder)
	refuses(t, "lock 1;lock 0;end", 1, api.ErrOrder)
	refuses(t, "lock 0;recv 0 -;end", 1, api.ErrOrder)
	refuses(t, "loop 2;lock 0;recv 0 -;end", 2, api.ErrOrder)
	refuses(t, "loop 2;lock 0;end;end", 2, api.ErrOrder)
	refuses(t, "lock 0;recv 0 0;recv 0 5", 2, api.ErrOrder)
	refuses(t, "lock 0;unlock 1;run 1", 1, api.ErrOrder) // ahead of the last op
	refuses(t, "loop 2;unlock 1;run 1;run 1", 1, api.ErrOrder)
}

func TestCheckOfSteps(t *testing.T) {
	for s, want := range map[string]api.Errno{
		"loop 32;loop 16;run 1;end;end":                                 api.OK, // 512
		"loop 32;loop 16;run 1;end;end;run 1":                           api.ErrLong,
		"run 1;loop 32;loop 16;run 1;end;end":                           api.ErrLong,
		"close 0;loop 32;loop 16;run 1;end;end":                         api.ErrLong,
		"loop 7;loop 8;loop 9;close 1;end;end;end;" + often(8, "run 1"): api.OK, // 504 and 8
		"loop 7;loop 8;loop 9;close 1;end;end;end;" + often(9, "run 1"): api.ErrLong,
		"loop 27;loop 19;run 1;end;end":                                 api.ErrLong, // 513
		"loop 32;" + often(16, "run 1") + "end":                         api.OK,
		"loop 32;" + often(17, "run 1") + "end":                         api.ErrLong,
		"loop 32;loop 32;loop 32;end;end;end":                           api.OK, // nothing is done
		"loop 32;loop 32;loop 32;end;end;end;run 1":                     api.OK,
		often(8, "loop 32;loop 32;loop 32;end;end;end"):                 api.OK,
		"loop 32;loop 32;loop 32;run 1;end;end;end":                     api.ErrLong,
		"loop 32;loop 32;loop 32;end;run 1;end;end":                     api.ErrLong,
		"loop 32;loop 32;loop 32;end;end;run 1;end":                     api.OK,
		"loop 32;loop 16;loop 32;end;run 1;end;end":                     api.OK,
		"loop 32;loop 32;loop 32;" + often(42, "run 1") + "end;end;end": api.ErrLong,
		"loop 32;lock 1;loop 7;close 0;close 1;end;run 1;unlock 1;end":  api.ErrLong, // 32 of 17
		"loop 32;lock 1;loop 7;close 0;close 1;end;unlock 1;end":        api.OK,      // 32 of 16
	} {
		refuses(t, s, 0, want)
	}
}

func TestOrderAheadOfLong(t *testing.T) {
	long := "loop 32;loop 32;run 1;end;end"
	refuses(t, long, 0, api.ErrLong)
	refuses(t, long+";end", 5, api.ErrOrder)
	refuses(t, long+";lock 0", 5, api.ErrOrder)
	refuses(t, long+";loop 2;run 1", 6, api.ErrOrder)
	refuses(t, long+";unlock 0;run 1", 5, api.ErrOrder)
	refuses(t, "unlock 0;"+long, 0, api.ErrOrder)
	refuses(t, "lock 0;loop 32;loop 32;run 1;recv 0 -;end;end;unlock 0", 4, api.ErrOrder)
}

func TestMatch(t *testing.T) {
	for s, want := range map[string][]int{
		"":                                       {},
		"run 1":                                  {-1},
		"loop 2;end":                             {1, 0},
		"loop 2;run 1;end":                       {2, -1, 0},
		"loop 2;end;loop 2;end":                  {1, 0, 3, 2},
		"loop 2;loop 2;loop 2;end;end;end":       {5, 4, 3, 2, 1, 0},
		"loop 2;loop 2;end;loop 2;end;end;run 1": {5, 2, 1, 4, 3, 0, -1},
		"lock 0;loop 1;unlock 0;lock 0;end;unlock 0;send 0 1 0;recv 0 0;close 0;select 0 recv 0": {-1, 4, -1, -1, 1, -1, -1, -1, -1, -1},
	} {
		p := ops(t, s)
		for at, match := range want {
			if got := prog.Match(p, at); got != match {
				t.Errorf("P601: Match(%s, %d): %d, not %d", s, at, got, match)
			}
		}
		for _, at := range []int{math.MinInt, -100, -2, -1, len(p), len(p) + 1, len(p) + 100, math.MaxInt} {
			if got := prog.Match(p, at); got != -1 {
				t.Errorf("P601: Match(%s, %d): %d, not -1", s, at, got)
			}
		}
	}
	p := ops(t, "loop 2;end;loop 2;end")
	if got := prog.Match(p[:2], 2); got != -1 {
		t.Errorf("P601: Match behind the end, in the spare room: %d", got)
	}
}

func TestFlat(t *testing.T) {
	for s, want := range map[string]string{
		"":                                       "",
		"run 5":                                  "run 5",
		"loop 3;end":                             "",
		"loop 3;run 5;end":                       "run 5;run 5;run 5",
		"loop 1;run 5;end":                       "run 5",
		"run 1;loop 2;end;run 2":                 "run 1;run 2",
		"loop 2;run 1;end;loop 3;run 2;end":      "run 1;run 1;run 2;run 2;run 2",
		"loop 2;run 1;loop 2;run 2;end;end":      "run 1;run 2;run 2;run 1;run 2;run 2",
		"loop 2;loop 2;run 1;end;run 2;end":      "run 1;run 1;run 2;run 1;run 1;run 2",
		"loop 2;loop 2;end;loop 1;run 3;end;end": "run 3;run 3",
		"loop 2;loop 1;loop 2;run 1;end;close 2;end;run 3;end;run 4":      "run 1;run 1;close 2;run 3;run 1;run 1;close 2;run 3;run 4",
		"loop 2;select - recv 1 send 2 -3;end":                            "select - recv 1 send 2 -3;select - recv 1 send 2 -3",
		"lock 1;loop 2;unlock 1;send 0 -5 7;recv 3 -;lock 1;end;unlock 1": "lock 1;unlock 1;send 0 -5 7;recv 3 -;lock 1;unlock 1;send 0 -5 7;recv 3 -;lock 1;unlock 1",
	} {
		p := ops(t, s)
		if got := texts(prog.Flat(p)); got != want {
			t.Errorf("P601: Flat(%s): %s, not %s", s, got, want)
		}
		told(t, p)
	}
}

func TestStepsAndCost(t *testing.T) {
	for s, want := range map[string][2]int64{
		"":                                    {0, 0},
		"run 1000":                            {1, 1000},
		"loop 9;end":                          {0, 0},
		"loop 32;loop 32;loop 32;end;end;end": {0, 0},
		"loop 9;run 7;end":                    {9, 63},
		"loop 9;run 7;end;loop 2;run 3;end":   {11, 69},
		"loop 2;run 1;loop 3;run 10;loop 4;run 100;end;end;end":                   {2 + 6 + 24, 2 + 60 + 2400},
		"loop 2;loop 3;loop 4;run 100;end;run 10;end;run 1;end":                   {24 + 6 + 2, 2400 + 60 + 2},
		"lock 5;unlock 5;send 7 900 900;recv 7 900;close 7;select 900 send 7 900": {6, 0},
		"loop 32;loop 16;run 1000;end;end":                                        {512, 512000},
		"loop 5;end;run 3":                                                        {1, 3},
		often(48, "run 1000"):                                                     {48, 48000},
	} {
		p := ops(t, s)
		if steps, cost := prog.Steps(p), prog.Cost(p); int64(steps) != want[0] || cost != want[1] {
			t.Errorf("P601: of %s: Steps %d, Cost %d, not %v", s, steps, cost, want)
		}
		told(t, p)
	}
}

func TestWaits(t *testing.T) {
	for _, s := range []string{"send 3 5 W", "recv 3 W", "select W recv 3 send 1 2"} {
		for wait, want := range map[string]bool{"-": true, "0": false, "1": true, "1000": true} {
			o := strings.Replace(s, "W", wait, 1)
			for _, around := range []string{"@", "run 1;@", "@;run 1", "run 1;@;close 0", "loop 1;@;end", "loop 2;loop 2;loop 2;run 1;@;end;end;end", "recv 1 0;@;recv 1 0"} {
				s := strings.Replace(around, "@", o, 1)
				if got := prog.Waits(ops(t, s)); got != want {
					t.Errorf("P601: Waits(%s): %v", s, got)
				}
			}
		}
	}
	for _, s := range []string{"", "run 1", "lock 0;run 1;unlock 0;close 1;loop 2;end"} {
		if prog.Waits(ops(t, s)) {
			t.Errorf("P601: Waits(%s)", s)
		}
	}
}

func TestSection(t *testing.T) {
	for _, c := range []struct {
		s    string
		want [api.MaxLocks]int64
	}{
		{"", [8]int64{}},
		{"run 9", [8]int64{}},
		{"lock 0;unlock 0", [8]int64{}},
		{"run 5;lock 0;run 9;unlock 0;run 7", [8]int64{9}},
		{"lock 7;run 9;run 1;unlock 7", [8]int64{7: 10}},
		{"lock 2;run 1;unlock 2;lock 2;run 3;unlock 2;lock 2;run 2;unlock 2", [8]int64{2: 3}},           // the greatest one
		{"lock 2;run 4;unlock 2;lock 2;run 3;unlock 2", [8]int64{2: 4}},                                 // the first one
		{"lock 2;run 1;unlock 2;run 100;lock 2;run 3;unlock 2", [8]int64{2: 3}},                         // not what is between
		{"loop 5;lock 1;run 3;unlock 1;end", [8]int64{1: 3}},                                            // each round its own
		{"lock 1;loop 5;run 3;end;unlock 1", [8]int64{1: 15}},                                           // all rounds
		{"lock 1;run 1;loop 5;run 3;loop 2;run 10;end;end;run 2;unlock 1", [8]int64{1: 118}},            // and within one another
		{"lock 1;loop 4;run 2;unlock 1;lock 1;end;unlock 1", [8]int64{1: 2}},                            // over the End
		{"lock 1;run 1;loop 4;run 2;unlock 1;run 100;lock 1;run 5;end;run 3;unlock 1", [8]int64{1: 8}},  // behind the last round
		{"lock 1;run 9;loop 4;run 2;unlock 1;run 100;lock 1;run 5;end;run 3;unlock 1", [8]int64{1: 11}}, // ahead of the first one
		{"lock 1;run 1;loop 4;run 5;unlock 1;run 100;lock 1;run 5;end;run 3;unlock 1", [8]int64{1: 10}}, // from one round into the next
		{"lock 1;run 1;lock 3;run 10;unlock 3;run 100;unlock 1", [8]int64{1: 111, 3: 10}},               // around another
		{"lock 1;lock 3;run 10;unlock 3;lock 3;run 20;unlock 3;unlock 1", [8]int64{1: 30, 3: 20}},       // around it twice
		{"lock 1;loop 3;lock 3;run 10;unlock 3;end;unlock 1", [8]int64{1: 30, 3: 10}},                   // around it in a Loop
		{"lock 0;lock 1;lock 7;run 1;unlock 7;run 1;unlock 1;run 1;unlock 0", [8]int64{0: 3, 1: 2, 7: 1}},
		{"lock 4;recv 4 0;close 4;send 4 99 0;select 0 recv 4;unlock 4", [8]int64{}}, // only Runs cost
		{"lock 0;loop 32;loop 5;run 1000;end;end;unlock 0", [8]int64{160000}},
		{"lock 2;run 2;unlock 2;run 2", [8]int64{2: 2}}, // a Run of as many ticks is no lock
	} {
		p := ops(t, c.s)
		for lock, want := range c.want {
			if got := prog.Section(p, lock); got != want {
				t.Errorf("P601: Section(%s, %d): %d, not %d", c.s, lock, got, want)
			}
		}
		for _, lock := range []int{math.MinInt, -256, -8, -1, 8, 9, 256, 258, 1 << 16, 1<<32 + 1, math.MaxInt} {
			if got := prog.Section(p, lock); got != 0 {
				t.Errorf("P601: Section(%s, %d): %d, not 0", c.s, lock, got)
			}
		}
		told(t, p)
	}
}

func TestLocks(t *testing.T) {
	for s, want := range map[string][]int{
		"":                    nil,
		"run 1":               nil,
		"loop 2;end;close 3":  nil,
		"send 5 6 7;recv 3 0": nil,
		"lock 0;unlock 0":     {0},
		"lock 7;unlock 7":     {7},
		"lock 3;unlock 3;lock 1;unlock 1;lock 3;unlock 3;lock 2;unlock 2;lock 1;unlock 1":                                                 {1, 2, 3},
		"loop 3;lock 4;lock 6;unlock 6;unlock 4;end;lock 5;unlock 5":                                                                      {4, 5, 6},
		"lock 0;lock 1;lock 2;lock 3;lock 4;lock 5;lock 6;lock 7;unlock 7;unlock 6;unlock 5;unlock 4;unlock 3;unlock 2;unlock 1;unlock 0": {0, 1, 2, 3, 4, 5, 6, 7},
		"lock 7;unlock 7;lock 6;unlock 6;lock 5;unlock 5;lock 0;unlock 0":                                                                 {0, 5, 6, 7},
	} {
		if got := prog.Locks(ops(t, s)); !slices.Equal(got, want) {
			t.Errorf("P601: Locks(%s): %v, not %v", s, got, want)
		}
	}
}

// Every row of a few ops, up to six of them.
func TestAllShortPrograms(t *testing.T) {
	kinds := ops(t, "run 3;lock 0;lock 1;unlock 0;unlock 1;recv 0 -;loop 2;end")
	kinds = append(kinds, op.Op{Kind: op.Loop, N: 33})
	var try func(p []op.Op)
	try = func(p []op.Op) {
		at, e := wrong(p)
		tells(t, p, at, e)
		if e == api.OK {
			told(t, p)
		}
		if len(p) == 6 {
			return
		}
		for _, o := range kinds {
			try(append(p, o))
		}
	}
	try(nil)
}

// growth is a program that grows, with what is open at its end.
type growth struct {
	p    []op.Op
	held []int64
	open []int // of each Loop how many locks it began with
}

func (g *growth) top() int64 {
	if len(g.held) == 0 {
		return -1
	}
	return g.held[len(g.held)-1]
}

// next is any Op; an Unlock is mostly one of a lock that is held.
func (g *growth) next(r *rand.Rand) op.Op {
	o := op.Op{Kind: 1 + r.Intn(9), N: int64(r.Intn(api.MaxLocks))}
	switch o.Kind {
	case op.Run, op.Loop:
		o.N = 1 + int64(r.Intn(4))
	case op.Unlock:
		o.N = max(g.top(), 0)
	case op.Send, op.Recv:
		o.Wait = int64(r.Intn(3) - 1)
	case op.Select:
		o.N, o.Wait = 0, int64(r.Intn(3)-1)
		o.Cases = []op.Case{{Chan: r.Intn(4), Send: true, V: r.Int63()}, {Chan: 4 + r.Intn(4)}}
	case op.End:
		o.N = 0
	}
	return o
}

func (g *growth) fits(o op.Op) bool {
	began := 0
	if len(g.open) > 0 {
		began = g.open[len(g.open)-1]
	}
	switch o.Kind {
	case op.Lock:
		return o.N > g.top()
	case op.Unlock:
		return len(g.held) > began
	case op.Loop:
		return len(g.open) < api.MaxNest
	case op.End:
		return len(g.open) > 0 && len(g.held) == began
	}
	return o.Wait == 0 || len(g.held) == 0
}

func (g *growth) add(o op.Op) {
	g.p = append(g.p, o)
	switch o.Kind {
	case op.Lock:
		g.held = append(g.held, o.N)
	case op.Unlock:
		g.held = g.held[:len(g.held)-1]
	case op.Loop:
		g.open = append(g.open, len(g.held))
	case op.End:
		g.open = g.open[:len(g.open)-1]
	}
}

// finish lets go of what is open, the last one first.
func (g *growth) finish() {
	for len(g.held)+len(g.open) > 0 {
		if end := (op.Op{Kind: op.End}); g.fits(end) {
			g.add(end)
		} else {
			g.add(op.Op{Kind: op.Unlock, N: g.top()})
		}
	}
}

// grown is a program of Ops that may stand where they are; now and then with
// others among them, and too long.
func grown(r *rand.Rand) []op.Op {
	var g growth
	faults := r.Intn(12) - 9
	for n := r.Intn(api.MaxOps + 1); len(g.p) < n; {
		o := g.next(r)
		if faults > 0 && r.Intn(20) == 0 {
			faults--
			g.p = append(g.p, o)
		} else if g.fits(o) {
			g.add(o)
		}
	}
	g.finish()
	return g.p
}

func TestGrownPrograms(t *testing.T) {
	r := rand.New(rand.NewSource(6))
	met := map[api.Errno]int{}
	for range 5000 {
		p := grown(r)
		at, e := wrong(p)
		met[e]++
		tells(t, p, at, e)
		if e == api.OK {
			told(t, p)
		}
	}
	for _, e := range []api.Errno{api.OK, api.ErrMany, api.ErrOrder, api.ErrLong} {
		if met[e] < 50 {
			t.Errorf("the grown programs have too few of %v: %v", e, met)
		}
	}
}

// roomy is p in a list with spare room, its Cases too; and the whole of both.
func roomy(p []op.Op) (part, whole []op.Op) {
	whole = make([]op.Op, len(p)+3)
	for i := range whole {
		whole[i] = op.Op{Kind: op.Lock, N: 7, Cases: []op.Case{{Chan: 99}}}
	}
	copy(whole, p)
	for i, o := range p {
		if len(o.Cases) > 0 {
			room := append(slices.Clone(o.Cases), op.Case{Chan: 77}, op.Case{Chan: 78})
			whole[i].Cases = room[:len(o.Cases)]
		}
	}
	return whole[:len(p)], whole
}

// all is p and the spare room of its Cases, copied.
func all(p []op.Op) []op.Op {
	var copies []op.Op
	for _, o := range p {
		o.Cases = slices.Clone(o.Cases[:cap(o.Cases)])
		copies = append(copies, o)
	}
	return copies
}

func TestNothingIsChanged(t *testing.T) {
	for _, s := range []string{
		"", "run 1;loop 2;lock 3;select 0 recv 1 send 2 3;unlock 3;end;lock 1;run 1;unlock 1;select - recv 1;run 2",
		"lock 3;unlock 3;lock 1;unlock 1;lock 2;unlock 2;lock 1;unlock 1",
		"loop 2;loop 2;select 5 send 1 2;end;end",
		"loop 2;select 5 send 1 2", "lock 2;lock 1;select 1 recv 0;end", // refused
	} {
		part, whole := roomy(ops(t, s))
		was := all(whole)
		callAll(part)
		if !slices.EqualFunc(all(whole), was, op.Same) {
			t.Errorf("P2: of %s: %+v is changed to %+v", s, was, whole)
		}
	}
}

func TestFlatIsNewMemory(t *testing.T) {
	p, whole := roomy(ops(t, "select - recv 1 send 2 3;loop 3;select 0 recv 4;loop 2;select 7 send 5 6;end;end;run 1"))
	was := all(whole)
	flat := prog.Flat(p)
	want := texts(flat)
	for i := range flat {
		others := all(slices.Delete(slices.Clone(flat), i, i+1))
		room := flat[i].Cases[:cap(flat[i].Cases)]
		kept := slices.Clone(room)
		for j := range room {
			room[j] = op.Case{Chan: -1, V: 55}
		}
		if !slices.EqualFunc(all(slices.Delete(slices.Clone(flat), i, i+1)), others, op.Same) {
			t.Errorf("P2: the Cases of step %d are shared by another step", i)
		}
		copy(room, kept)
	}
	for i := range flat[:cap(flat)] {
		o := &flat[:cap(flat)][i]
		for j := range o.Cases {
			o.Cases[j] = op.Case{Chan: -1}
		}
		*o = op.Op{Kind: -1}
	}
	if !slices.EqualFunc(all(whole), was, op.Same) {
		t.Errorf("P2: what is done to Flat's answer changes what was handed in: %+v", whole)
	}
	if got := texts(prog.Flat(p)); got != want {
		t.Errorf("P2, P3: Flat once more: %s, not %s", got, want)
	}
	kept := prog.Flat(p)
	for i := range p {
		p[i].N, p[i].Wait = 9, 9
		for j := range p[i].Cases {
			p[i].Cases[j] = op.Case{Chan: 3}
		}
	}
	if got := texts(kept); got != want {
		t.Errorf("P2: what is done to p changes Flat's answer: %s, not %s", got, want)
	}
}

func TestFlatOfASingleOpIsNewMemory(t *testing.T) {
	p := ops(t, "select - recv 1 send 2 3")
	flat := prog.Flat(p)
	flat[0].Cases[0].Chan, flat[0].Wait = 6, 5
	if got := texts(p); got != "select - recv 1 send 2 3" {
		t.Errorf("P2: what is done to Flat's answer changes what was handed in: %s", got)
	}
}

func TestLocksIsNewMemory(t *testing.T) {
	p := ops(t, "lock 3;unlock 3;lock 1;unlock 1;lock 3;unlock 3")
	first, second := prog.Locks(p), prog.Locks(p)
	for i := range first[:cap(first)] {
		first[:cap(first)][i] = 42
	}
	if want := []int{1, 3}; !slices.Equal(second, want) || !slices.Equal(prog.Locks(p), want) {
		t.Errorf("P2: Locks: %v, then %v, not %v", second, prog.Locks(p), want)
	}
}

func TestNoListAndAnEmptyOne(t *testing.T) {
	for _, p := range [][]op.Op{nil, {}, make([]op.Op, 0, 4), runs(3)[:0]} {
		tells(t, p, 0, api.OK)
		told(t, p)
		if prog.Match(p, 0) != -1 || prog.Match(p, -1) != -1 {
			t.Errorf("P601: Match of no op: %d, %d", prog.Match(p, 0), prog.Match(p, -1))
		}
	}
	for _, cases := range [][]op.Case{nil, {}, make([]op.Case, 0, 2)} {
		p := []op.Op{{Kind: op.Loop, N: 2, Cases: cases}, {Kind: op.Run, N: 4, Cases: cases}, {Kind: op.End, Cases: cases}}
		tells(t, p, 0, api.OK)
		told(t, p)
		if got := prog.Flat(p); cap(cases) > 0 && cap(got[0].Cases) > 0 {
			got[0].Cases = append(got[0].Cases, op.Case{Chan: 5})
			if cases[:1][0].Chan == 5 {
				t.Error("P2: Flat's answer shares the spare room of empty Cases")
			}
		}
	}
	tells(t, []op.Op{{Kind: op.Select, Cases: []op.Case{}}}, 0, api.ErrMany)
}

// What Check refuses: each call ends, and none panics.
func TestWhatCheckRefuses(t *testing.T) {
	wild := []op.Op{{}, {Kind: op.End}, {Kind: op.Loop, N: math.MaxInt64}, {Kind: op.Loop, N: math.MinInt64}, {Kind: op.Loop, N: -1}, {Kind: op.Run, N: math.MaxInt64},
		{Kind: op.Lock, N: -1}, {Kind: op.Lock, N: math.MinInt64}, {Kind: op.Unlock, N: 1 << 40}, {Kind: op.Lock, N: 64}, {Kind: op.Select}, {Kind: math.MinInt}}
	for _, a := range wild {
		callAll([]op.Op{a})
		for _, b := range wild {
			callAll([]op.Op{a, b})
			for _, c := range wild {
				callAll([]op.Op{a, b, c})
			}
		}
	}
	callAll(ops(t, often(100, "loop 32")+"run 1;"+often(100, "end")))
	callAll(ops(t, often(100, "end")))
	callAll(ops(t, often(100, "loop 32")))
	callAll(ops(t, "loop 32;loop 32;loop 32;"+often(42, "run 1000")+"end;end;end"))
}

func TestTheSameAgain(t *testing.T) {
	s := "loop 2;lock 3;run 4;unlock 3;end;select - recv 1"
	p := ops(t, s)
	for range 3 {
		callAll(ops(t, "lock 5;run 9;loop 3"))
		tells(t, p, 0, api.OK)
		told(t, p)
		refuses(t, "lock 5;run 9;loop 3", 2, api.ErrOrder)
	}
}
