package op_test

import (
	"math"
	"slices"
	"strconv"
	"strings"
	"testing"
	"unsafe"

	"watchbill/api"
	"watchbill/op"
)

const beyond = "9223372036854775808" // the first one beyond 64 bits

func one(kind int, n int64) op.Op { return op.Op{Kind: kind, N: n} }

func pick(wait int64, cases ...op.Case) op.Op {
	return op.Op{Kind: op.Select, Wait: wait, Cases: cases}
}

func recv(c int) op.Case { return op.Case{Chan: c} }

func send(c int, v int64) op.Case { return op.Case{Send: true, Chan: c, V: v} }

// some is n Cases, each of another channel.
func some(n int) []op.Case {
	var cases []op.Case
	for c := range n {
		if c%2 == 0 {
			cases = append(cases, recv(c))
		} else {
			cases = append(cases, send(c, int64(-c)))
		}
	}
	return cases
}

func checks(t *testing.T, o op.Op, want api.Errno) {
	t.Helper()
	if e := op.Check(o); e != want {
		t.Errorf("P501: Check(%+v): %v, not %v", o, e, want)
	}
}

func same(t *testing.T, a, b op.Op, want bool) {
	t.Helper()
	if op.Same(a, b) != want || op.Same(b, a) != want {
		t.Errorf("P501: Same(%+v, %+v): %v, the other way round %v", a, b, op.Same(a, b), op.Same(b, a))
	}
}

// alike is what Same must be, written down once more.
func alike(a, b op.Op) bool {
	if a.Kind != b.Kind || a.N != b.N || a.V != b.V || a.Wait != b.Wait || len(a.Cases) != len(b.Cases) {
		return false
	}
	for i := range a.Cases {
		if a.Cases[i] != b.Cases[i] {
			return false
		}
	}
	return true
}

func parses(t *testing.T, s string, want op.Op) {
	t.Helper()
	if got, e := op.Parse(s); e != api.OK || !alike(got, want) {
		t.Errorf("P502: Parse(%q): %+v, %v, not %+v", s, got, e, want)
	}
}

func refuses(t *testing.T, s string, want api.Errno) {
	t.Helper()
	if got, e := op.Parse(s); e != want || !alike(got, op.Op{}) {
		t.Errorf("P502, P4: Parse(%q): %+v, %v, not nothing and %v", s, got, e, want)
	}
}

// written holds Text and Parse against each other and against s.
func written(t *testing.T, s string, o op.Op) {
	t.Helper()
	checks(t, o, api.OK)
	if got := op.Text(o); got != s {
		t.Errorf("P502: Text(%+v): %q, not %q", o, got, s)
	}
	parses(t, s, o)
}

// bounds is of each Kind the least and the greatest N.
func bounds() map[int][2]int64 {
	return map[int][2]int64{
		op.Run: {1, 1000}, op.Lock: {0, 7}, op.Unlock: {0, 7}, op.Send: {0, 7}, op.Recv: {0, 7}, op.Close: {0, 7},
		op.Select: {0, 0}, op.Loop: {1, 32}, op.End: {0, 0},
	}
}

// least is an Op of that Kind that Check takes.
func least(kind int) op.Op {
	o := one(kind, bounds()[kind][0])
	if kind == op.Select {
		o.Cases = some(1)
	}
	return o
}

func mayWait(kind int) bool { return kind == op.Send || kind == op.Recv || kind == op.Select }

func TestKindsAreNumbered(t *testing.T) {
	kinds := []int{op.Run, op.Lock, op.Unlock, op.Send, op.Recv, op.Close, op.Select, op.Loop, op.End}
	if !slices.Equal(kinds, []int{1, 2, 3, 4, 5, 6, 7, 8, 9}) {
		t.Errorf("P501: the Kinds are %v", kinds)
	}
}

func TestCheckTakesEachKind(t *testing.T) {
	for kind := op.Run; kind <= op.End; kind++ {
		checks(t, least(kind), api.OK)
	}
}

func TestCheckNamesNoOtherKind(t *testing.T) {
	for _, kind := range []int{0, op.End + 1, -1, 11, 100, -op.Run, -op.End, op.Run + 256, op.Run + 1<<16, op.Run + 1<<32, math.MaxInt, math.MinInt} {
		checks(t, op.Op{Kind: kind}, api.ErrName)
		checks(t, one(kind, 1), api.ErrName)
		// Whatever else is wrong with it.
		checks(t, op.Op{Kind: kind, N: -1, V: 1, Wait: -2, Cases: some(api.MaxCases + 1)}, api.ErrName)
		checks(t, op.Op{Kind: kind, Cases: []op.Case{recv(1), recv(1)}}, api.ErrName)
		checks(t, op.Op{Kind: kind, Cases: []op.Case{recv(-1)}}, api.ErrName)
	}
}

func TestCheckOfN(t *testing.T) {
	for kind, b := range bounds() {
		o := least(kind)
		for _, n := range []int64{math.MinInt64, math.MinInt64 + 1, -1 << 32, -1001, -33, -8, -7, -2, -1, 0, 1, 2, 6, 7, 8, 9, 31, 32, 33, 999, 1000, 1001, 1 << 32, 1<<32 + 1, math.MaxInt64, b[0] - 1, b[0], b[0] + 1, b[1] - 1, b[1], b[1] + 1} {
			o.N = n
			want := api.OK
			if n < b[0] || n > b[1] {
				want = api.ErrArg
			}
			checks(t, o, want)
		}
	}
}

func TestCheckOfV(t *testing.T) {
	for kind := op.Run; kind <= op.End; kind++ {
		o := least(kind)
		for _, v := range []int64{math.MinInt64, -1 << 32, -1, 1, 2, 1001, 1 << 32, math.MaxInt64} {
			o.V = v
			want := api.ErrArg
			if kind == op.Send {
				want = api.OK
			}
			checks(t, o, want)
		}
	}
}

func TestCheckOfWait(t *testing.T) {
	for kind := op.Run; kind <= op.End; kind++ {
		o := least(kind)
		for _, wait := range []int64{math.MinInt64, -1001, -2, -1, 0, 1, 2, 999, 1000, 1001, 1 << 32, 1<<32 + 1, math.MaxInt64} {
			o.Wait = wait
			want := api.OK
			if wait < -1 || wait > 1000 || wait != 0 && !mayWait(kind) {
				want = api.ErrArg
			}
			checks(t, o, want)
		}
	}
}

func TestCheckOfCasesThatAKindHasNot(t *testing.T) {
	for kind := op.Run; kind <= op.End; kind++ {
		if kind == op.Select {
			continue
		}
		o := least(kind)
		for n := range api.MaxCases + 3 {
			o.Cases = some(n)
			want := api.ErrArg
			if n == 0 {
				want = api.OK
			}
			checks(t, o, want)
		}
		o.Cases = []op.Case{}
		checks(t, o, api.OK)
		o.Cases = make([]op.Case, 0, 4)
		checks(t, o, api.OK)
		o.Cases = make([]op.Case, 1)
		checks(t, o, api.ErrArg)
		o.Cases = []op.Case{recv(1), recv(1)}
		checks(t, o, api.ErrArg)
	}
}

func TestCheckOfHowManyCases(t *testing.T) {
	for n := range 2 * api.MaxCases {
		want := api.OK
		if n < 1 || n > api.MaxCases {
			want = api.ErrMany
		}
		checks(t, pick(0, some(n)...), want)
		checks(t, pick(-1, some(n)...), want)
		checks(t, pick(1000, some(n)...), want)
	}
	checks(t, op.Op{Kind: op.Select, Cases: []op.Case{}}, api.ErrMany)
	checks(t, op.Op{Kind: op.Select, Cases: make([]op.Case, 0, 3)}, api.ErrMany)
	checks(t, op.Op{Kind: op.Select, Cases: make([]op.Case, 100000)}, api.ErrMany)
}

func TestCheckOfOneCase(t *testing.T) {
	for _, at := range []int{0, 1, 2, 3} {
		cases := some(api.MaxCases)
		for _, c := range []int{4, 5, 6, 7} {
			cases[at] = recv(c)
			checks(t, pick(0, cases...), api.OK)
			for _, v := range []int64{math.MinInt64, -1, 0, 1, math.MaxInt64} {
				cases[at] = send(c, v)
				checks(t, pick(0, cases...), api.OK)
				cases[at] = op.Case{Chan: c, V: v}
				want := api.ErrArg
				if v == 0 {
					want = api.OK
				}
				checks(t, pick(0, cases...), want)
			}
		}
		for _, c := range []int{math.MinInt, -1 << 32, -8, -1, api.MaxChans, api.MaxChans + 1, 256, 1 << 32, math.MaxInt} {
			cases[at] = recv(c)
			checks(t, pick(0, cases...), api.ErrArg)
			cases[at] = send(c, 1)
			checks(t, pick(0, cases...), api.ErrArg)
		}
	}
	for c := range api.MaxChans {
		checks(t, pick(0, recv(c)), api.OK)
		checks(t, pick(0, send(c, 0)), api.OK)
	}
}

func TestCheckOfAChanTwice(t *testing.T) {
	for first := range api.MaxCases {
		for second := first + 1; second < api.MaxCases; second++ {
			for _, c := range []int{0, 5, 7} {
				for _, a := range []op.Case{recv(c), send(c, 0), send(c, 3)} {
					for _, b := range []op.Case{recv(c), send(c, 0), send(c, 3), send(c, 4)} {
						cases := []op.Case{recv(1), send(2, 9), recv(3), send(4, 9)}
						cases[first], cases[second] = a, b
						checks(t, pick(1, cases...), api.ErrTwice)
					}
				}
			}
		}
	}
	// The same V is no matter.
	checks(t, pick(1, send(1, 5), send(2, 5), recv(0), send(3, 5)), api.OK)
}

// The first error in the order in which they are named, whatever comes behind.
func TestOrderOfChecks(t *testing.T) {
	bad := []op.Case{recv(9)}
	twice := []op.Case{recv(1), recv(1)}
	for _, cases := range [][]op.Case{nil, some(5), bad, twice} {
		checks(t, op.Op{Kind: op.Select, N: 1, Cases: cases}, api.ErrArg)
		checks(t, op.Op{Kind: op.Select, N: -1, Cases: cases}, api.ErrArg)
		checks(t, op.Op{Kind: op.Select, V: 1, Cases: cases}, api.ErrArg)
		checks(t, pick(-2, cases...), api.ErrArg)
		checks(t, pick(1001, cases...), api.ErrArg)
	}
	checks(t, pick(0, recv(9), recv(1), recv(1), recv(2), recv(3)), api.ErrMany)
	checks(t, pick(0, recv(1), recv(1), recv(1), recv(1), recv(1)), api.ErrMany)
	checks(t, pick(0, recv(1), recv(1), recv(2), recv(3), op.Case{V: 1}), api.ErrMany)
}

func TestOrderOfCases(t *testing.T) {
	checks(t, pick(0, recv(1), recv(1), recv(9)), api.ErrTwice)
	checks(t, pick(0, recv(1), recv(9), recv(1)), api.ErrArg)
	checks(t, pick(0, recv(9), recv(1), recv(1)), api.ErrArg)
	checks(t, pick(0, recv(1), send(1, 2), op.Case{Chan: 2, V: 1}), api.ErrTwice)
	checks(t, pick(0, recv(1), op.Case{Chan: 2, V: 1}, send(1, 2)), api.ErrArg)
	checks(t, pick(0, recv(1), recv(2), recv(2), recv(-1)), api.ErrTwice)
	checks(t, pick(0, recv(1), recv(2), recv(-1), recv(2)), api.ErrArg)
	// Of one Case: ErrArg ahead of ErrTwice.
	checks(t, pick(0, recv(1), op.Case{Chan: 1, V: 5}), api.ErrArg)
	checks(t, pick(0, recv(9), recv(9)), api.ErrArg)
	checks(t, pick(0, recv(-1), recv(-1)), api.ErrArg)
}

// wrong is what Check must answer, written down from the promise.
func wrong(o op.Op) api.Errno {
	b, named := bounds()[o.Kind]
	switch {
	case !named:
		return api.ErrName
	case o.V != 0 && o.Kind != op.Send, o.Wait != 0 && !mayWait(o.Kind), len(o.Cases) > 0 && o.Kind != op.Select:
		return api.ErrArg
	case o.N < b[0], o.N > b[1], o.Wait < -1, o.Wait > 1000:
		return api.ErrArg
	case o.Kind == op.Select && (len(o.Cases) < 1 || len(o.Cases) > 4):
		return api.ErrMany
	}
	met := map[int]int{}
	for _, c := range o.Cases {
		if c.Chan < 0 || c.Chan > 7 || !c.Send && c.V != 0 {
			return api.ErrArg
		}
		if met[c.Chan]++; met[c.Chan] > 1 {
			return api.ErrTwice
		}
	}
	return api.OK
}

// every is Ops of all Kinds with all that may and may not be in them.
func every() []op.Op {
	lists := [][]op.Case{nil, {}, some(1), some(2), some(4), some(5), {recv(7)}, {recv(8)}, {send(-1, 1)}, {{Chan: 2, V: 1}},
		{recv(1), recv(1)}, {recv(1), send(1, 2), recv(8)}, {recv(1), recv(8), recv(1)}, {recv(8), recv(8), recv(1), recv(1), recv(1)}}
	var all []op.Op
	for kind := -1; kind <= op.End+1; kind++ {
		for _, n := range []int64{-1, 0, 1, 7, 8, 32, 33, 1000, 1001} {
			for _, v := range []int64{-1, 0, 1} {
				for _, wait := range []int64{-2, -1, 0, 1, 1000, 1001} {
					for _, cases := range lists {
						all = append(all, op.Op{Kind: kind, N: n, V: v, Wait: wait, Cases: cases})
					}
				}
			}
		}
	}
	return all
}

func TestCheckAndTextOfEvery(t *testing.T) {
	for _, o := range every() {
		want := wrong(o)
		checks(t, o, want)
		s := op.Text(o) // Of what is refused: no panic (P1).
		if want != api.OK {
			continue
		}
		parses(t, s, o)
		if again, _ := op.Parse(s); op.Text(again) != s {
			t.Errorf("P502: Text(Parse(%q)): %q", s, op.Text(again))
		}
	}
}

func TestSame(t *testing.T) {
	same(t, op.Op{}, op.Op{}, true)
	full := op.Op{Kind: 42, N: -5, V: 6, Wait: -7, Cases: []op.Case{{Send: true, Chan: -3, V: 4}, {Chan: 99, V: 1}}}
	for _, o := range []op.Op{full, least(op.Run), least(op.Select), pick(-1, some(4)...), pick(5000, some(9)...), {Kind: -1}} {
		twin := o
		twin.Cases = slices.Clone(o.Cases)
		same(t, o, o, true)
		same(t, o, twin, true)
	}
	for i, change := range []func(*op.Op){
		func(o *op.Op) { o.Kind++ },
		func(o *op.Op) { o.Kind = -o.Kind },
		func(o *op.Op) { o.N++ },
		func(o *op.Op) { o.N += 1 << 32 },
		func(o *op.Op) { o.N = -o.N },
		func(o *op.Op) { o.V++ },
		func(o *op.Op) { o.V += 1 << 32 },
		func(o *op.Op) { o.V = 0 },
		func(o *op.Op) { o.Wait++ },
		func(o *op.Op) { o.Wait += 1 << 32 },
		func(o *op.Op) { o.Wait = 0 },
		func(o *op.Op) { o.N, o.V = o.V, o.N },
		func(o *op.Op) { o.V, o.Wait = o.Wait, o.V },
		func(o *op.Op) { o.Cases = nil },
		func(o *op.Op) { o.Cases = o.Cases[:1] },
		func(o *op.Op) { o.Cases = o.Cases[1:] },
		func(o *op.Op) { o.Cases = append(o.Cases, op.Case{}) },
		func(o *op.Op) { o.Cases[0].Send = false },
		func(o *op.Op) { o.Cases[0].Chan++ },
		func(o *op.Op) { o.Cases[0].V++ },
		func(o *op.Op) { o.Cases[1].Send = true },
		func(o *op.Op) { o.Cases[1].Chan++ },
		func(o *op.Op) { o.Cases[1].V++ },
		func(o *op.Op) { o.Cases[1].V += 1 << 32 },
		func(o *op.Op) { slices.Reverse(o.Cases) },
	} {
		other := full
		other.Cases = slices.Clone(full.Cases)
		change(&other)
		if op.Same(full, other) || op.Same(other, full) {
			t.Errorf("P501: change %d: Same(%+v, %+v)", i, full, other)
		}
	}
}

func TestSameOfNoListAndAnEmptyOne(t *testing.T) {
	for _, kind := range []int{0, op.Run, op.Select, 77} {
		none := op.Op{Kind: kind, N: 1}
		empty := op.Op{Kind: kind, N: 1, Cases: []op.Case{}}
		roomy := op.Op{Kind: kind, N: 1, Cases: some(3)[:0]}
		filled := op.Op{Kind: kind, N: 1, Cases: make([]op.Case, 1)}
		same(t, none, empty, true)
		same(t, none, roomy, true)
		same(t, empty, roomy, true)
		same(t, none, filled, false)
		same(t, empty, filled, false)
	}
	// What lies in the spare room is no Case.
	same(t, pick(0, some(4)[:2]...), pick(0, slices.Clone(some(2))...), true)
}

func TestSameOfEachTwo(t *testing.T) {
	all := every()
	for i := 0; i < len(all); i += 11 {
		for j := 0; j < len(all); j += 13 {
			if got := op.Same(all[i], all[j]); got != alike(all[i], all[j]) {
				t.Fatalf("P501: Same(%+v, %+v): %v", all[i], all[j], got)
			}
		}
	}
}

func TestWaits(t *testing.T) {
	for _, kind := range []int{math.MinInt, -op.Send, -1, 0, 1, 2, 3, 4, 5, 6, 7, 8, 9, 10, 99, op.Send + 256, op.Send + 1<<32, math.MaxInt} {
		for _, wait := range []int64{math.MinInt64, -99, -2, -1, 0, 1, 2, 1000, 1001, 1 << 32, math.MaxInt64} {
			for _, n := range []int64{-1, 0, 1, 5000} {
				o := op.Op{Kind: kind, N: n, V: n, Wait: wait, Cases: some(int(n + 1))}
				want := mayWait(kind) && wait != 0
				if got := op.Waits(o); got != want {
					t.Errorf("P501: Waits(%d, Wait %d): %v", kind, wait, got)
				}
			}
		}
	}
}

func TestTexts(t *testing.T) {
	written(t, "run 1", one(op.Run, 1))
	written(t, "run 5", one(op.Run, 5))
	written(t, "run 1000", one(op.Run, 1000))
	written(t, "lock 0", one(op.Lock, 0))
	written(t, "lock 7", one(op.Lock, 7))
	written(t, "unlock 0", one(op.Unlock, 0))
	written(t, "unlock 7", one(op.Unlock, 7))
	written(t, "close 0", one(op.Close, 0))
	written(t, "close 7", one(op.Close, 7))
	written(t, "loop 1", one(op.Loop, 1))
	written(t, "loop 32", one(op.Loop, 32))
	written(t, "end", op.Op{Kind: op.End})
	written(t, "send 0 0 0", op.Op{Kind: op.Send})
	written(t, "send 1 2 3", op.Op{Kind: op.Send, N: 1, V: 2, Wait: 3})
	written(t, "send 7 -5 -", op.Op{Kind: op.Send, N: 7, V: -5, Wait: -1})
	written(t, "send 7 -1 1000", op.Op{Kind: op.Send, N: 7, V: -1, Wait: 1000})
	written(t, "send 3 9223372036854775807 1", op.Op{Kind: op.Send, N: 3, V: math.MaxInt64, Wait: 1})
	written(t, "send 3 -9223372036854775808 1", op.Op{Kind: op.Send, N: 3, V: math.MinInt64, Wait: 1})
	written(t, "recv 0 0", op.Op{Kind: op.Recv})
	written(t, "recv 1 2", op.Op{Kind: op.Recv, N: 1, Wait: 2})
	written(t, "recv 7 -", op.Op{Kind: op.Recv, N: 7, Wait: -1})
	written(t, "recv 2 1000", op.Op{Kind: op.Recv, N: 2, Wait: 1000})
	written(t, "select - recv 1", pick(-1, recv(1)))
	written(t, "select 0 recv 0", pick(0, recv(0)))
	written(t, "select 1000 send 7 -1", pick(1000, send(7, -1)))
	written(t, "select 5 send 1 2 recv 3", pick(5, send(1, 2), recv(3)))
	written(t, "select 5 recv 3 send 1 2", pick(5, recv(3), send(1, 2)))
	written(t, "select - send 1 -2 recv 3 send 0 0", pick(-1, send(1, -2), recv(3), send(0, 0)))
	written(t, "select 9 recv 7 recv 6 recv 5 recv 4", pick(9, recv(7), recv(6), recv(5), recv(4)))
	written(t, "select - send 0 1 send 1 9223372036854775807 send 2 -9223372036854775808 send 3 4",
		pick(-1, send(0, 1), send(1, math.MaxInt64), send(2, math.MinInt64), send(3, 4)))
	// No list and an empty one are the same.
	written(t, "run 5", op.Op{Kind: op.Run, N: 5, Cases: []op.Case{}})
	written(t, "end", op.Op{Kind: op.End, Cases: some(2)[:0]})
}

func TestParseOfAnotherFirstWord(t *testing.T) {
	for _, s := range []string{"", "jump", "jump 5", "Run 5", "RUN 5", "ru 5", "runs 5", "run5", "5", "5 run", "-", "- 5", "0", "end.", "END", "e", "nd",
		"case 1", "wait 5", "unlock", "un lock 1", "locks 1", "sel - recv 1", "sends 1 2 3", "receive 1 -", "recv1 -", "1 lock", "ende", "blockx 3"} {
		refuses(t, s, api.ErrForm)
	}
	refuses(t, "jump "+beyond, api.ErrForm)
	refuses(t, "jump 9 "+beyond+" x", api.ErrForm)
	refuses(t, "run\x00 5", api.ErrForm)
	refuses(t, "\u0455end 1 2 3", api.ErrForm)
}

func TestParseOfAnotherLine(t *testing.T) {
	for _, s := range []string{" ", "  ", " run 5", "run 5 ", "run  5", "run\t5", "run 5\n", "\nrun 5", "run 5\r", "run\n5", "end ", " end", "end\n",
		"send 1 2  3", "select  - recv 1", "select - recv 1 ", "select -  recv 1", "select - recv  1", "run \x7f", "run 5\x00", "run \u0661", "run\u00a05", "\xff", "run 5 \u00e9"} {
		refuses(t, s, api.ErrForm)
	}
}

// forms is one right text of each Kind, and of Select several.
func forms() []string {
	return []string{"run 5", "lock 3", "unlock 3", "send 1 2 3", "send 1 2 -", "recv 1 2", "recv 1 -", "close 2", "loop 4", "end",
		"select - recv 1", "select 3 send 1 2", "select 3 recv 0 send 1 2", "select - send 1 2 recv 0 recv 2 send 3 4"}
}

func TestParseOfTooManyOrFewWords(t *testing.T) {
	for _, s := range forms() {
		if _, e := op.Parse(s); e != api.OK {
			t.Errorf("P502: Parse(%q): %v", s, e)
		}
		for _, more := range []string{" 1", " -", " 0", " x", " run", " end", " 1 2", " 1 2 3", " " + beyond} {
			refuses(t, s+more, api.ErrForm)
		}
		words := strings.Split(s, " ")
		// Each text that is cut short, but for a select whose whole Cases are left.
		for n := range len(words) {
			cut := strings.Join(words[:n], " ")
			if whole(words[:n]) {
				continue
			}
			refuses(t, cut, api.ErrForm)
		}
	}
	for _, s := range []string{"run", "lock", "unlock", "send", "send 1", "send 1 2", "recv", "recv 1", "close", "loop", "select",
		"run 1 2", "lock 1 2", "unlock 1 2", "send 1 2 3 4", "recv 1 2 3", "close 1 2", "loop 1 2", "end 1", "end end", "end -", "end 0", "run 1 -", "lock 1 -", "close 1 -", "loop 1 -"} {
		refuses(t, s, api.ErrForm)
	}
}

// whole tells whether words are a select with none or all of its Cases' words.
func whole(words []string) bool {
	if len(words) < 2 || words[0] != "select" {
		return false
	}
	words = words[2:]
	for len(words) > 0 {
		n := map[string]int{"send": 3, "recv": 2}[words[0]]
		if n > len(words) {
			return false
		}
		words = words[n:]
	}
	return true
}

func TestParseOfCasesCutOffOrOfAnotherWord(t *testing.T) {
	for _, cases := range []string{"recv", "send", "send 1", "recv 1 recv", "recv 1 send", "recv 1 send 2", "send 1 2 recv", "send 1 2 send 3",
		"recv 1 2", "send 1 2 3", "recv 1 2 3", "1", "-", "x", "run 1", "close 1", "lock 1", "end", "select - recv 1", "Recv 1", "SEND 1 2", "recv1", "sends 1 2", "rec 1", "sen 1 2",
		"recv 1 run 2", "recv 1 Send 2 3", "send 1 2 x 3", "recv 1 - recv 2", "recv 1 -", "send 1 recv 2", "send 1 2 - recv 3", "recv 0 recv 1 recv 2 recv 3 recv", "recv 0 recv 1 recv 2 recv 3 x", "recv 0 recv 1 recv 2 recv 3 recv 4 recv"} {
		for _, wait := range []string{"-", "0", "7", "1001", "x", "-1", beyond} {
			refuses(t, "select "+wait+" "+cases, api.ErrForm)
		}
	}
}

func TestParseOfNoNumber(t *testing.T) {
	for _, bad := range []string{"x", "-", "--", "-0", "00", "05", "-05", "+5", "5x", "x5", "0x5", "5.", "5.0", "5e1", "1_0", "1,0", "run", "recv", "a-1", "0" + beyond, beyond + "x"} {
		for _, s := range []string{"run #", "lock #", "unlock #", "close #", "loop #", "send # 1 2", "send 1 # 2", "send # # -", "recv # 2", "recv # -",
			"select - recv #", "select - send # 1", "select - send 1 #", "select 5 recv 1 recv #", "select 5 send 1 2 send 0 #", "select 5 recv # recv 1"} {
			refuses(t, strings.ReplaceAll(s, "#", bad), api.ErrForm)
		}
		if bad == "-" {
			continue
		}
		for _, s := range []string{"send 1 2 #", "recv 1 #", "select # recv 1", "select # send 1 2 recv 3", "select #"} {
			refuses(t, strings.ReplaceAll(s, "#", bad), api.ErrForm)
		}
	}
}

func TestParseBeyond64Bits(t *testing.T) {
	for _, bad := range []string{beyond, "-9223372036854775809", "18446744073709551616", "18446744073709551617", "-18446744073709551615", "99999999999999999999", strings.Repeat("9", 400)} {
		for _, s := range []string{"run #", "lock #", "unlock #", "close #", "loop #", "send # 1 2", "send 1 # 2", "send 1 2 #", "send # # #", "recv # 2", "recv # -", "recv 1 #",
			"select # recv 1", "select #", "select - recv #", "select - send # 1", "select - send 1 #", "select 5 recv 1 recv #", "select 5 send 1 2 send 0 #", "select 5 recv # recv 1"} {
			refuses(t, strings.ReplaceAll(s, "#", bad), api.ErrNum)
		}
	}
}

func TestParseOfAWaitBelow0(t *testing.T) {
	for _, wait := range []string{"-1", "-2", "-5", "-1000", "-1001", "-4294967295", "-4294967296", "-9223372036854775808"} {
		refuses(t, "send 1 2 "+wait, api.ErrForm)
		refuses(t, "recv 1 "+wait, api.ErrForm)
		refuses(t, "select "+wait+" recv 1", api.ErrForm)
		refuses(t, "select "+wait+" send 1 2 recv 3", api.ErrForm)
		refuses(t, "select "+wait, api.ErrForm)
	}
}

func TestParseOfWhatCheckRefuses(t *testing.T) {
	for _, s := range []string{"run 0", "run -1", "run -5", "run 1001", "run 9223372036854775807", "run -9223372036854775808", "run 4294967297",
		"lock -1", "lock 8", "lock 4294967296", "unlock -1", "unlock 8", "close -1", "close 8", "loop 0", "loop -1", "loop 33",
		"send -1 2 3", "send 8 2 3", "send 8 2 -", "send 1 2 1001", "send 1 2 4294967296", "recv -1 2", "recv 8 2", "recv 8 -", "recv 1 1001", "recv 1 9223372036854775807",
		"select 1001 recv 1", "select 1001", "select 1001 recv 1 recv 1", "select 1001 recv 0 recv 1 recv 2 recv 3 recv 4",
		"select - recv 8", "select - recv -1", "select - send 8 1", "select - send -1 1", "select - recv 4294967296", "select - recv 4294967297", "select - send 4294967296 1", "select - recv -4294967295",
		"select - recv 9223372036854775807", "select - recv 1 recv 8", "select - recv 8 recv 1 recv 1", "select - recv 1 recv 8 recv 1", "select - recv 8 recv 8", "select - recv 4294967296 recv 0"} {
		refuses(t, s, api.ErrArg)
	}
	for _, s := range []string{"select -", "select 0", "select 1000", "select - recv 0 recv 1 recv 2 recv 3 recv 4", "select - recv 8 recv 1 recv 1 recv 2 recv 3",
		"select - recv 1 recv 1 recv 1 recv 1 recv 1", "select 7 send 0 1 send 1 1 send 2 1 send 3 1 send 4 1 send 5 1", "select -" + strings.Repeat(" recv 1", 50000)} {
		refuses(t, s, api.ErrMany)
	}
	for _, s := range []string{"select - recv 1 recv 1", "select - recv 1 send 1 2", "select - send 1 2 recv 1", "select - send 1 2 send 1 2", "select - send 1 2 send 1 3",
		"select 0 recv 1 recv 2 recv 3 recv 1", "select - recv 1 recv 1 recv 8", "select - recv 0 recv 1 send 0 1 recv -1", "select - recv 0 recv 0 recv 4294967296"} {
		refuses(t, s, api.ErrTwice)
	}
}

// Two faults in one text, either way round.
func TestOrderOfTwoFaults(t *testing.T) {
	for _, c := range []struct {
		s    string
		want api.Errno
	}{
		// A word that is none, and a number beyond 64 bits: the first one from the left.
		{"send x # 0", api.ErrForm}, {"send # x 0", api.ErrNum}, {"send # 0 x", api.ErrNum}, {"send 0 # x", api.ErrNum}, {"send x 0 #", api.ErrForm}, {"send 0 x #", api.ErrForm},
		{"recv # x", api.ErrNum}, {"recv x #", api.ErrForm},
		{"select # recv x", api.ErrNum}, {"select x recv #", api.ErrForm},
		{"select - recv # recv x", api.ErrNum}, {"select - recv x recv #", api.ErrForm}, {"select - send # x", api.ErrNum}, {"select - send x #", api.ErrForm},
		{"select - send 1 # recv x", api.ErrNum}, {"select - send 1 x recv #", api.ErrForm}, {"select - recv # send 1 x", api.ErrNum}, {"select - recv x send 1 #", api.ErrForm},
		// A WAIT below 0, and a number beyond 64 bits.
		{"send # 0 -1", api.ErrNum}, {"send 0 # -1", api.ErrNum}, {"recv # -1", api.ErrNum}, {"select -1 recv #", api.ErrForm}, {"select -1 send 0 #", api.ErrForm},
		// A number that Check refuses, and one beyond 64 bits or none, on either side.
		{"send 8 # 0", api.ErrNum}, {"send # 0 1001", api.ErrNum}, {"send 8 x 0", api.ErrForm}, {"send x 0 1001", api.ErrForm}, {"send 8 0 -1", api.ErrForm}, {"recv 8 -1", api.ErrForm}, {"recv 8 #", api.ErrNum}, {"recv # 1001", api.ErrNum},
		{"select 1001 recv #", api.ErrNum}, {"select 1001 recv x", api.ErrForm}, {"select # recv 8", api.ErrNum}, {"select -1 recv 8", api.ErrForm}, {"select -1 recv 1 recv 1", api.ErrForm},
		{"select - recv 8 recv #", api.ErrNum}, {"select - recv # recv 8", api.ErrNum}, {"select - recv 8 recv x", api.ErrForm}, {"select - recv 1 recv 1 recv #", api.ErrNum}, {"select - recv 1 recv 1 recv x", api.ErrForm},
		{"select - recv 0 recv 1 recv 2 recv 3 recv #", api.ErrNum}, {"select - recv 0 recv 1 recv 2 recv 3 recv x", api.ErrForm}, {"select #", api.ErrNum}, {"select x", api.ErrForm}, {"select -1", api.ErrForm},
		// The number of words and the beginnings of Cases ahead of all numbers.
		{"run # 1", api.ErrForm}, {"run 1 #", api.ErrForm}, {"run 0 1", api.ErrForm}, {"end #", api.ErrForm}, {"send # 1", api.ErrForm}, {"send # 1 2 3", api.ErrForm}, {"recv #", api.ErrForm}, {"lock 8 #", api.ErrForm},
		{"select # recv", api.ErrForm}, {"select # jump 1", api.ErrForm}, {"select # recv 1 2", api.ErrForm}, {"select - recv # jump 1", api.ErrForm}, {"select - recv # send 1", api.ErrForm}, {"select - recv 8 recv", api.ErrForm},
		{"select - recv 1 recv 1 recv", api.ErrForm}, {"select 1001 recv", api.ErrForm}, {"select - recv 0 recv 1 recv 2 recv 3 recv 4 send 5", api.ErrForm},
		// The words of a line ahead of all.
		{"run #  ", api.ErrForm}, {"run  #", api.ErrForm}, {"lock 8 ", api.ErrForm}, {"select - recv # ", api.ErrForm},
		// A send has two words behind it, whatever they are.
		{"select # send 1 recv", api.ErrNum}, {"select # send recv 1", api.ErrNum}, {"select # recv recv", api.ErrNum}, {"select # recv send recv 1", api.ErrNum}, {"select # send 1 recv 2", api.ErrForm},
		// Of one word: beyond 64 bits, and below 0.
		{"send 1 2 -#", api.ErrNum}, {"recv 1 -9#", api.ErrNum}, {"select -9# recv 1", api.ErrNum},
	} {
		s := strings.ReplaceAll(c.s, "#", "9"+beyond)
		refuses(t, s, c.want)
	}
}

// Of all texts of up to five of these words: what is taken is what Text tells,
// and what is refused no Op tells.
func TestParseOfAllShortTexts(t *testing.T) {
	some := []string{"run", "send", "recv", "select", "end", "-", "0", "1", "-1", "1001"}
	texts := []string{""}
	for range 5 {
		var longer []string
		for _, s := range texts {
			for _, w := range some {
				longer = append(longer, strings.TrimPrefix(s+" "+w, " "))
			}
		}
		texts = longer
		for _, s := range texts {
			o, e := op.Parse(s)
			if e == api.OK && (op.Text(o) != s || wrong(o) != api.OK) || e != api.OK && !alike(o, op.Op{}) {
				t.Fatalf("P502: Parse(%q): %+v, %v", s, o, e)
			}
		}
	}
}

func TestParseOfALongText(t *testing.T) {
	refuses(t, strings.Repeat("x", 1<<20), api.ErrForm)
	refuses(t, "end"+strings.Repeat(" end", 100000), api.ErrForm)
	refuses(t, "select -"+strings.Repeat(" recv 1", 100000)+" recv", api.ErrForm)
	refuses(t, "select -"+strings.Repeat(" recv 1", 100000)+" recv x", api.ErrForm)
	refuses(t, "run "+strings.Repeat("0", 100000), api.ErrForm)
	refuses(t, "run "+strings.Repeat("1", 100000), api.ErrNum)
}

func TestWhatIsHandedInIsNotChanged(t *testing.T) {
	room := []op.Case{recv(1), send(2, 3), recv(4), send(5, 6), recv(8), {Chan: 9, V: 9}}
	for n := range len(room) + 1 {
		mine := slices.Clone(room)
		for kind := -1; kind <= op.End+1; kind++ {
			o := op.Op{Kind: kind, N: 1, V: 2, Wait: 3, Cases: mine[:n]}
			if kind == op.Select {
				o.N, o.V = 0, 0
			}
			op.Check(o)
			op.Text(o)
			op.Waits(o)
			op.Same(o, o)
		}
		if !slices.Equal(mine, room) {
			t.Errorf("P2: the Cases handed in, and their spare room, became %+v", mine)
		}
	}
}

func TestAnswersAreNewMemory(t *testing.T) {
	const text = "select - send 1 2 recv 3 send 5 -6"
	want := pick(-1, send(1, 2), recv(3), send(5, -6))
	s := string([]byte(text))
	a, _ := op.Parse(s)
	b, _ := op.Parse(s)
	room := a.Cases[:cap(a.Cases)]
	for i := range room {
		room[i] = send(7, 77)
	}
	_ = append(a.Cases[:1], recv(6))
	if !alike(b, want) || s != text {
		t.Errorf("P2: behind a change of an answer: %+v of %q", b, s)
	}
	parses(t, s, want)
	for _, o := range []op.Op{want, one(op.Run, 5), {Kind: op.Send, N: 1, V: 2, Wait: -1}} {
		first, second := op.Text(o), op.Text(o)
		if first != second || unsafe.StringData(first) == unsafe.StringData(second) {
			t.Errorf("P2: two texts of %+v: %q, %q", o, first, second)
		}
	}
}

func TestAnswersDoNotFollowWhatWasHandedIn(t *testing.T) {
	cases := some(4)
	o := pick(5, cases...)
	before := op.Text(o)
	cases[0] = send(7, 9)
	if before != "select 5 recv 0 send 1 -1 recv 2 send 3 -3" {
		t.Errorf("P2, P502: %q", before)
	}
	if got := op.Text(o); got != "select 5 send 7 9 send 1 -1 recv 2 send 3 -3" {
		t.Errorf("P3, P502: %q", got)
	}
}

func TestTheSameCallsAnswerTheSame(t *testing.T) {
	for range 3 {
		written(t, "select - recv 1 send 2 3", pick(-1, recv(1), send(2, 3)))
		refuses(t, "select - recv 1 recv 1", api.ErrTwice)
		refuses(t, "run "+beyond, api.ErrNum)
		written(t, "run 7", one(op.Run, 7))
		refuses(t, "run", api.ErrForm)
		checks(t, pick(0), api.ErrMany)
		checks(t, one(op.Loop, 32), api.OK)
	}
}

func TestTextsOfAllNumbers(t *testing.T) {
	for kind, words := range map[int]string{op.Run: "run", op.Lock: "lock", op.Unlock: "unlock", op.Close: "close", op.Loop: "loop"} {
		for n := int64(-3); n <= 1003; n++ {
			s, b := words+" "+strconv.FormatInt(n, 10), bounds()[kind]
			if n < b[0] || n > b[1] {
				refuses(t, s, api.ErrArg)
			} else {
				written(t, s, one(kind, n))
			}
		}
	}
	for wait := int64(0); wait <= 1003; wait++ {
		w := strconv.FormatInt(wait, 10)
		if wait > 1000 {
			refuses(t, "recv 2 "+w, api.ErrArg)
			refuses(t, "send 2 4 "+w, api.ErrArg)
			refuses(t, "select "+w+" recv 2", api.ErrArg)
			continue
		}
		written(t, "recv 2 "+w, op.Op{Kind: op.Recv, N: 2, Wait: wait})
		written(t, "send 2 4 "+w, op.Op{Kind: op.Send, N: 2, V: 4, Wait: wait})
		written(t, "select "+w+" recv 2", pick(wait, recv(2)))
	}
}
