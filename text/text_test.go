package text_test

import (
	"fmt"
	"math"
	"strings"
	"testing"

	"watchbill/api"
	"watchbill/op"
	"watchbill/set"
	"watchbill/text"
)

const (
	apart = ";"
	// Just past 64 bits, and of their form.
	tooGreat = "9223372036854775808"
	tooSmall = "-9223372036854775809"
)

// joined is the text of lines that semicolons part.
func joined(lines string) string {
	return strings.ReplaceAll(lines, apart, "\n") + "\n"
}

// ops is the program of lines, parted by semicolons.
func ops(t *testing.T, lines string) []op.Op {
	t.Helper()
	var p []op.Op
	for _, line := range strings.Split(lines, apart) {
		o, e := op.Parse(line)
		if e != api.OK {
			t.Fatalf("P502: Parse(%q): %v", line, e)
		}
		p = append(p, o)
	}
	return p
}

func task(t *testing.T, name, lines string) set.Task {
	t.Helper()
	return set.Task{Name: name, Period: 100, Deadline: 80, Budget: 60, Prog: ops(t, lines)}
}

// made is a set that set.Check takes, new each time; it has each Kind of op.
func made(t *testing.T) set.Set {
	t.Helper()
	return set.Set{
		Locks: 3,
		Chans: []set.Chan{{Room: 4, Server: -1}, {Room: 0, Server: 2}, {Room: 16, Server: 0}},
		Tasks: []set.Task{
			task(t, "pump", "run 2;lock 2;run 1;unlock 2"),
			task(t, "valve", "send 1 -5 0;loop 3;run 30;end"),
			task(t, "log", "run 1;select - recv 0 send 1 2;recv 0 -;close 2"),
		},
	}
}

// madeText is made in words.
const madeText = "locks 3\nchan 4 -\nchan 0 2\nchan 16 0\n" +
	"task pump 100 80 60\nrun 2\nlock 2\nrun 1\nunlock 2\n" +
	"task valve 100 80 60\nsend 1 -5 0\nloop 3\nrun 30\nend\n" +
	"task log 100 80 60\nrun 1\nselect - recv 0 send 1 2\nrecv 0 -\nclose 2\n"

// changed is made, changed by each of the edits.
func changed(t *testing.T, edits ...func(s *set.Set)) set.Set {
	t.Helper()
	s := made(t)
	for _, edit := range edits {
		edit(&s)
	}
	return s
}

// told is all of s; no list and an empty one are told alike.
func told(s set.Set) string { return fmt.Sprintf("%+v", s) }

// stands tells whether Print tells want of s, and Parse tells s of want.
func stands(t *testing.T, s set.Set, want string) {
	t.Helper()
	got, e := text.Print(s)
	if got != want || e != api.OK {
		t.Errorf("P801: Print(%s): %q, %v, not %q", told(s), got, e, want)
	}
	back, at, e := text.Parse(want)
	if told(back) != told(s) || at != 0 || e != api.OK {
		t.Errorf("P802: Parse(%q): %s, %d, %v, not %s", want, told(back), at, e, told(s))
	}
}

// takes tells whether Parse takes s, and Print tells it again.
func takes(t *testing.T, s string) set.Set {
	t.Helper()
	got, at, e := text.Parse(s)
	if at != 0 || e != api.OK {
		t.Errorf("P801: Parse(%.200q): %d, %v", s, at, e)
		return set.Set{}
	}
	if again, e := text.Print(got); again != s || e != api.OK {
		t.Errorf("P802: Print of Parse(%.200q): %.200q, %v", s, again, e)
	}
	return got
}

// refuses tells whether Parse tells that error at that line, and nothing else.
func refuses(t *testing.T, s string, line int, want api.Errno) {
	t.Helper()
	got, at, e := text.Parse(s)
	if at != line || e != want {
		t.Errorf("P801: Parse(%.200q): %d, %v, not %d, %v", s, at, e, line, want)
	}
	if told(got) != told(set.Set{}) {
		t.Errorf("P4: Parse(%.200q): %s beside %v", s, told(got), e)
	}
}

// refusesEach is of lines parted by semicolons, each with `line error`.
func refusesEach(t *testing.T, want map[string]string) {
	t.Helper()
	for lines, place := range want {
		got, at, e := text.Parse(joined(lines))
		if is := fmt.Sprint(at, " ", e); is != place {
			t.Errorf("P801: Parse of %.200q: %s, not %s", lines, is, place)
		}
		if told(got) != told(set.Set{}) {
			t.Errorf("P4: Parse of %.200q: %s beside %v", lines, told(got), e)
		}
	}
}

// chanLines is n lines of channels.
func chanLines(n int) string { return strings.Repeat("chan 1 -\n", n) }

// taskLines is n tasks of two lines each.
func taskLines(n int) string {
	var all strings.Builder
	for i := range n {
		fmt.Fprintf(&all, "task %c 9 9 9\nrun 1\n", 'a'+i)
	}
	return all.String()
}

// opLines is n ops.
func opLines(n int) string { return strings.Repeat("run 1\n", n) }

func TestPrintOfAnOrdinarySet(t *testing.T) {
	stands(t, made(t), madeText)
	stands(t, set.Set{Tasks: []set.Task{{Name: "z", Period: 1, Deadline: 1, Budget: 1, Prog: ops(t, "run 1")}}}, "locks 0\ntask z 1 1 1\nrun 1\n")
}

func TestPrintOfLocks(t *testing.T) {
	for n := range api.MaxLocks + 1 {
		s := set.Set{Locks: n, Tasks: []set.Task{task(t, "a", "run 1")}}
		stands(t, s, fmt.Sprintf("locks %d\ntask a 100 80 60\nrun 1\n", n))
	}
}

func TestPrintOfChans(t *testing.T) {
	for n := range api.MaxChans + 1 {
		s, want := set.Set{Locks: 1, Tasks: []set.Task{task(t, "a", "run 1"), task(t, "b", "run 2")}}, "locks 1\n"
		for i := range n {
			server := []string{"-", "0", "1"}[i%3]
			s.Chans = append(s.Chans, set.Chan{Room: 2 * i, Server: i%3 - 1})
			want += fmt.Sprintf("chan %d %s\n", 2*i, server)
		}
		stands(t, s, want+"task a 100 80 60\nrun 1\ntask b 100 80 60\nrun 2\n")
	}
}

func TestPrintOfRoom(t *testing.T) {
	for room := range api.MaxRoom + 1 {
		s := set.Set{Chans: []set.Chan{{Room: room, Server: -1}}, Tasks: []set.Task{task(t, "a", "run 1")}}
		stands(t, s, fmt.Sprintf("locks 0\nchan %d -\ntask a 100 80 60\nrun 1\n", room))
	}
}

func TestPrintOfServers(t *testing.T) {
	for server := -1; server < api.MaxTasks; server++ {
		word := fmt.Sprint(server)
		if server == -1 {
			word = "-"
		}
		s := takes(t, "locks 0\nchan 3 "+word+"\n"+taskLines(api.MaxTasks))
		if len(s.Chans) != 1 || s.Chans[0] != (set.Chan{Room: 3, Server: server}) {
			t.Errorf("P801: the server %s is told as %+v", word, s.Chans)
		}
		stands(t, s, "locks 0\nchan 3 "+word+"\n"+taskLines(api.MaxTasks))
	}
}

func TestPrintOfTasks(t *testing.T) {
	for n := 1; n <= api.MaxTasks; n++ {
		var s set.Set
		want := "locks 0\n"
		for i := range n {
			name := strings.Repeat(string(rune('a'+i)), i%8+1)
			s.Tasks = append(s.Tasks, set.Task{Name: name, Period: int64(300 + i), Deadline: int64(200 + i), Budget: int64(100 + i), Prog: ops(t, "run 7")})
			want += fmt.Sprintf("task %s %d %d %d\nrun 7\n", name, 300+i, 200+i, 100+i)
		}
		stands(t, s, want)
	}
}

func TestPrintOfTimes(t *testing.T) {
	for _, ticks := range [][3]int64{
		{1, 1, 1}, {2, 1, 1}, {2, 2, 1}, {math.MaxInt32, 9, 9}, {1 << 31, 1<<31 - 1, 1}, {1 << 32, 1 << 32, 1 << 32},
		{api.MaxTick, 1, 1}, {api.MaxTick, api.MaxTick - 1, api.MaxTick - 2}, {api.MaxTick, api.MaxTick, api.MaxTick},
	} {
		s := set.Set{Tasks: []set.Task{{Name: "a", Period: ticks[0], Deadline: ticks[1], Budget: ticks[2], Prog: ops(t, "run 1")}}}
		stands(t, s, fmt.Sprintf("locks 0\ntask a %d %d %d\nrun 1\n", ticks[0], ticks[1], ticks[2]))
	}
}

func TestPrintOfProgs(t *testing.T) {
	for _, n := range []int{1, 2, 3, 47, api.MaxOps} {
		for _, tasks := range []int{1, 2, api.MaxTasks} {
			var s set.Set
			want := "locks 0\n"
			for i := range tasks {
				p := ops(t, strings.TrimSuffix(strings.Repeat("run 1;", n), apart))
				s.Tasks = append(s.Tasks, set.Task{Name: string(rune('a' + i)), Period: 9, Deadline: 9, Budget: 9, Prog: p})
				want += fmt.Sprintf("task %c 9 9 9\n", 'a'+i) + opLines(n)
			}
			stands(t, s, want)
		}
	}
}

// progs has each Kind of op, and the edges of its numbers.
func progs() []string {
	return []string{
		"run 1", "run 1000", "lock 0;unlock 0;run 1", "lock 7;run 1;unlock 7", "lock 0;lock 7;run 1;unlock 7;unlock 0",
		"run 1;send 0 0 -", "run 1;send 7 9223372036854775807 0", "run 1;send 3 -9223372036854775808 1000", "run 1;recv 0 -", "run 1;recv 7 0",
		"run 1;recv 2 1000", "run 1;close 0", "close 7;run 1", "run 1;select - recv 0", "run 1;select 0 send 7 -1", "run 1;select 1000 recv 3 send 2 0 recv 1 send 0 5",
		"loop 1;run 1;end", "loop 32;run 1000;end", "loop 2;loop 3;loop 4;run 1;end;end;end", "run 1;loop 9;end",
	}
}

func TestPrintOfEachKindOfOp(t *testing.T) {
	head := set.Set{Locks: api.MaxLocks, Chans: make([]set.Chan, api.MaxChans)}
	for _, p := range progs() {
		one, three := head, head
		one.Tasks = []set.Task{task(t, "a", p)}
		three.Tasks = []set.Task{task(t, "a", "run 1"), task(t, "b", p), task(t, "c", p)}
		want := "locks 8\n" + strings.Repeat("chan 0 0\n", api.MaxChans)
		stands(t, one, want+"task a 100 80 60\n"+joined(p))
		stands(t, three, want+"task a 100 80 60\nrun 1\ntask b 100 80 60\n"+joined(p)+"task c 100 80 60\n"+joined(p))
	}
}

// wrongSet is an edit after which set.Check tells that error.
type wrongSet struct {
	want api.Errno
	edit func(s *set.Set)
}

// wrongSets has each error of set.Check, in the order in which they are named,
// of the set and of the task at.
func wrongSets(t *testing.T, at int) []wrongSet {
	t.Helper()
	prog := func(want api.Errno, p ...op.Op) wrongSet {
		return wrongSet{want, func(s *set.Set) { s.Tasks[at].Prog = p }}
	}
	loop, end := op.Op{Kind: op.Loop, N: 32}, op.Op{Kind: op.End}
	return []wrongSet{
		{api.ErrArg, func(s *set.Set) { s.Locks = -1 }},
		{api.ErrArg, func(s *set.Set) { s.Locks = api.MaxLocks + 1 }},
		{api.ErrMany, func(s *set.Set) { s.Chans = make([]set.Chan, api.MaxChans+1) }},
		{api.ErrMany, func(s *set.Set) { s.Tasks = nil }},
		{api.ErrMany, func(s *set.Set) { s.Tasks = make([]set.Task, api.MaxTasks+1) }},
		{api.ErrArg, func(s *set.Set) { s.Chans[at].Room = -1 }},
		{api.ErrArg, func(s *set.Set) { s.Chans[at].Room = api.MaxRoom + 1 }},
		{api.ErrArg, func(s *set.Set) { s.Chans[at].Server = -2 }},
		{api.ErrArg, func(s *set.Set) { s.Chans[at].Server = 3 }},
		{api.ErrName, func(s *set.Set) { s.Tasks[at].Name = "" }},
		{api.ErrName, func(s *set.Set) { s.Tasks[at].Name = "a b" }},
		{api.ErrName, func(s *set.Set) { s.Tasks[at].Name = "ninemarks" }},
		{api.ErrTwice, func(s *set.Set) { s.Tasks[at].Name = s.Tasks[(at+2)%3].Name }},
		{api.ErrArg, func(s *set.Set) { s.Tasks[at].Period = api.MaxTick + 1 }},
		{api.ErrArg, func(s *set.Set) { s.Tasks[at].Period = 0 }},
		{api.ErrArg, func(s *set.Set) { s.Tasks[at].Deadline = 101 }},
		{api.ErrArg, func(s *set.Set) { s.Tasks[at].Budget = 81 }},
		{api.ErrArg, func(s *set.Set) { s.Tasks[at].Budget = 0 }},
		prog(api.ErrMany, make([]op.Op, api.MaxOps+1)...),
		prog(api.ErrName, op.Op{}),
		prog(api.ErrArg, op.Op{Kind: op.Run}),
		prog(api.ErrMany, op.Op{Kind: op.Select}),
		prog(api.ErrTwice, op.Op{Kind: op.Select, Cases: make([]op.Case, 2)}),
		prog(api.ErrOrder, end),
		prog(api.ErrLong, loop, loop, op.Op{Kind: op.Run, N: 1}, end, end),
		prog(api.ErrShort),
		prog(api.ErrShort, op.Op{Kind: op.Close}),
		prog(api.ErrName, ops(t, "run 1;lock 3;unlock 3")...),
		prog(api.ErrName, ops(t, "run 1;close 3")...),
		prog(api.ErrName, ops(t, "run 1;select 0 recv 0 recv 3")...),
	}
}

func TestPrintOfWhatSetCheckRefuses(t *testing.T) {
	for at := range 3 {
		for i, w := range wrongSets(t, at) {
			s := changed(t, w.edit)
			if got, e := text.Print(s); got != "" || e != w.want {
				t.Errorf("P801: Print of wrong set %d of task %d: %q, %v, not %v", i, at, got, e, w.want)
			}
		}
	}
	if got, e := text.Print(set.Set{}); got != "" || e != api.ErrMany {
		t.Errorf("P801: Print of nothing: %q, %v", got, e)
	}
}

// Of two wrong things Print tells what set.Check tells.
func TestPrintOfTwoWrongThings(t *testing.T) {
	faults := wrongSets(t, 1)
	for _, edits := range [][2]int{{0, 2}, {1, 3}, {2, 9}, {5, 9}, {8, 12}, {10, 13}, {12, 17}, {17, 18}, {16, 19}, {9, 25}, {14, 27}} {
		s := changed(t, faults[edits[0]].edit, faults[edits[1]].edit)
		if got, e := text.Print(s); got != "" || e != faults[edits[0]].want {
			t.Errorf("P801: Print of the wrong sets %v: %q, %v, not %v", edits, got, e, faults[edits[0]].want)
		}
	}
}
