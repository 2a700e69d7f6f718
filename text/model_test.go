package text_test

import (
	"fmt"
	"math"
	"math/big"
	"math/rand"
	"regexp"
	"slices"
	"strings"
	"testing"
	"unsafe"

	"watchbill/api"
	"watchbill/op"
	"watchbill/set"
	"watchbill/text"
)

var (
	lineForm   = regexp.MustCompile(`^([!-~]+( [!-~]+)*)?$`)
	numberForm = regexp.MustCompile(`^(0|-?[1-9][0-9]*)$`)
	opForm     = regexp.MustCompile(`^(run|lock|unlock|send|recv|close|select|loop|end)$`)
)

// modelNumber is a number of at most so many bits, as the promise says it.
func modelNumber(word string, bits uint) (int64, api.Errno) {
	if !numberForm.MatchString(word) {
		return 0, api.ErrForm
	}
	n, _ := new(big.Int).SetString(word, 10)
	bound := new(big.Int).Lsh(big.NewInt(1), bits-1)
	if n.Cmp(bound) >= 0 || n.Cmp(bound.Neg(bound)) < 0 {
		return 0, api.ErrNum
	}
	return n.Int64(), api.OK
}

// modelServer is the number of a SERVER.
func modelServer(word string) (int64, api.Errno) {
	if word == "-" {
		return -1, api.OK
	}
	n, e := modelNumber(word, 64)
	if e == api.OK && n < 0 {
		return 0, api.ErrForm
	}
	if e != api.OK {
		return 0, e
	}
	return modelNumber(word, 32)
}

// modelNumbers is the numbers of words, each by its own rule.
func modelNumbers(words []string, rules ...func(string) (int64, api.Errno)) ([]int64, api.Errno) {
	if len(words) != len(rules) {
		return nil, api.ErrForm
	}
	all := make([]int64, len(words))
	for i, rule := range rules {
		n, e := rule(words[i])
		if e != api.OK {
			return nil, e
		}
		all[i] = n
	}
	return all, api.OK
}

// modelParse is what Parse must answer, written down from the promise; op.Parse
// and set.Check are asked themselves.
func modelParse(s string) (set.Set, int, api.Errno) {
	lines := strings.Split(s, "\n")
	if s == "" || lines[len(lines)-1] != "" {
		return set.Set{}, 0, api.ErrForm
	}
	var got set.Set
	for i, line := range lines[:len(lines)-1] {
		if e := modelLine(&got, i, line); e != api.OK {
			return set.Set{}, i, e
		}
	}
	if _, e := set.Check(got); e != api.OK {
		return set.Set{}, 0, e
	}
	return got, 0, api.OK
}

func modelLine(s *set.Set, i int, line string) api.Errno {
	words := strings.Split(line, " ")
	tasks, steps := len(s.Tasks), 0
	if tasks > 0 {
		steps = len(s.Tasks[tasks-1].Prog)
	}
	is := func(word string) bool { return words[0] == word }
	isOp := opForm.MatchString(words[0])
	switch {
	case !lineForm.MatchString(line):
		return api.ErrForm
	case is("locks") != (i == 0), is("chan") && tasks > 0, isOp && tasks == 0, !isOp && !is("locks") && !is("chan") && !is("task"):
		return api.ErrForm
	case is("task") && tasks == 12, is("chan") && len(s.Chans) == 8, isOp && steps == 48:
		return api.ErrLong
	}
	small := func(word string) (int64, api.Errno) { return modelNumber(word, 32) }
	great := func(word string) (int64, api.Errno) { return modelNumber(word, 64) }
	name := func(string) (int64, api.Errno) { return 0, api.OK }
	var n []int64
	var o op.Op
	var e api.Errno
	switch words[0] {
	case "locks":
		if n, e = modelNumbers(words[1:], small); e == api.OK {
			s.Locks = int(n[0])
		}
	case "chan":
		if n, e = modelNumbers(words[1:], small, modelServer); e == api.OK {
			s.Chans = append(s.Chans, set.Chan{Room: int(n[0]), Server: int(n[1])})
		}
	case "task":
		if n, e = modelNumbers(words[1:], name, great, great, great); e == api.OK {
			s.Tasks = append(s.Tasks, set.Task{Name: words[1], Period: n[1], Deadline: n[2], Budget: n[3]})
		}
	default:
		if o, e = op.Parse(line); e == api.OK {
			s.Tasks[tasks-1].Prog = append(s.Tasks[tasks-1].Prog, o)
		}
	}
	return e
}

// modelPrint is what Print must answer; set.Check and op.Text are asked themselves.
func modelPrint(s set.Set) (string, api.Errno) {
	if _, e := set.Check(s); e != api.OK {
		return "", e
	}
	all := fmt.Sprintf("locks %d\n", s.Locks)
	for _, c := range s.Chans {
		all += strings.Replace(fmt.Sprintf("chan %d %d\n", c.Room, c.Server), "-1", "-", 1)
	}
	for _, task := range s.Tasks {
		all += fmt.Sprintf("task %s %d %d %d\n", task.Name, task.Period, task.Deadline, task.Budget)
		for _, o := range task.Prog {
			all += op.Text(o) + "\n"
		}
	}
	return all, api.OK
}

// holds tells whether Parse and Print answer as the models do, twice.
func holds(t *testing.T, s string) api.Errno {
	t.Helper()
	want, line, wantE := modelParse(s)
	for range 2 {
		if got, at, e := text.Parse(s); told(got) != told(want) || at != line || e != wantE {
			t.Fatalf("P801: Parse(%q): %s, %d, %v, not %s, %d, %v", s, told(got), at, e, told(want), line, wantE)
		}
	}
	if wantE == api.OK {
		takes(t, s)
	}
	return wantE
}

// grown is a set that set.Check takes most often.
func grown(t *testing.T, r *rand.Rand) set.Set {
	t.Helper()
	s := set.Set{Locks: r.Intn(api.MaxLocks + 1)}
	tasks := 1 + r.Intn(api.MaxTasks)
	for range r.Intn(api.MaxChans + 1) {
		s.Chans = append(s.Chans, set.Chan{Room: r.Intn(api.MaxRoom + 1), Server: r.Intn(tasks+1) - 1})
	}
	for i := range tasks {
		budget := 1 + r.Int63n(1<<uint(r.Intn(30)))
		deadline := budget + r.Int63n(1<<uint(r.Intn(35)))
		period := deadline + r.Int63n(1<<uint(r.Intn(39)))
		task := set.Task{Name: strings.Repeat(string(rune('a'+i)), 1+r.Intn(8)), Period: period, Deadline: deadline, Budget: budget}
		for len(task.Prog) == 0 || r.Intn(4) > 0 {
			more := ops(t, progs()[r.Intn(len(progs()))])
			if len(task.Prog)+len(more) > api.MaxOps {
				break
			}
			task.Prog = append(task.Prog, more...)
		}
		s.Tasks = append(s.Tasks, task)
	}
	if r.Intn(4) > 0 {
		// Most programs name locks and channels of all sizes.
		s.Locks, s.Chans = api.MaxLocks, append(s.Chans, make([]set.Chan, api.MaxChans-len(s.Chans))...)
	}
	return s
}

func TestGrownSets(t *testing.T) {
	r := rand.New(rand.NewSource(8))
	met := map[api.Errno]int{}
	for range 4000 {
		s := grown(t, r)
		want, wantE := modelPrint(s)
		met[wantE]++
		got, e := text.Print(s)
		if got != want || e != wantE {
			t.Fatalf("P801: Print(%s): %q, %v, not %q, %v", told(s), got, e, want, wantE)
		}
		if e == api.OK {
			stands(t, s, want)
		}
	}
	if met[api.OK] < 1000 || met[api.ErrName] < 100 {
		t.Errorf("the grown sets are too much alike: %v", met)
	}
}

// someWord is a word that stands in a text, or is wrong in one.
func someWord(r *rand.Rand) string {
	all := []string{
		"locks", "chan", "task", "run", "lock", "unlock", "send", "recv", "close", "select", "loop", "end", "jump", "a", "b", "-", "", "x", "A", "-0", "01", "\t", "\x7f",
		"0", "1", "2", "3", "7", "8", "9", "12", "16", "17", "48", "100", "1000", "1001", "-1", "-2", "2147483647", "2147483648", "-2147483648", "-2147483649",
		"4294967296", "1099511627776", "1099511627777", "9223372036854775807", tooGreat, "-9223372036854775808", tooSmall,
	}
	return all[r.Intn(len(all))]
}

// bent is lines with one thing changed.
func bent(r *rand.Rand, lines []string) []string {
	lines = slices.Clone(lines)
	if len(lines) == 0 {
		return []string{someWord(r)}
	}
	at, other := r.Intn(len(lines)), r.Intn(len(lines))
	words := strings.Split(lines[at], " ")
	word := r.Intn(len(words))
	switch r.Intn(8) {
	case 0:
		return slices.Delete(lines, at, at+1)
	case 1:
		return slices.Insert(lines, at, lines[other])
	case 2:
		lines[at], lines[other] = lines[other], lines[at]
		return lines
	case 3:
		words = slices.Delete(words, word, word+1)
	case 4:
		words = slices.Insert(words, word, someWord(r))
	case 5:
		for range api.MaxOps {
			lines = slices.Insert(lines, at, lines[at])
		}
		return lines
	default:
		words[word] = someWord(r)
	}
	lines[at] = strings.Join(words, " ")
	return lines
}

// Texts of grown sets, bent up to three times, are held against the model.
func TestBentTexts(t *testing.T) {
	r := rand.New(rand.NewSource(80))
	met := map[api.Errno]int{}
	for range 12000 {
		s, e := modelPrint(grown(t, r))
		if e != api.OK {
			continue
		}
		lines := strings.Split(strings.TrimSuffix(s, "\n"), "\n")
		for range r.Intn(4) {
			lines = bent(r, lines)
		}
		met[holds(t, strings.Join(lines, "\n")+"\n")]++
	}
	for _, e := range []api.Errno{api.OK, api.ErrForm, api.ErrLong, api.ErrNum, api.ErrArg, api.ErrMany, api.ErrName, api.ErrTwice, api.ErrOrder, api.ErrShort} {
		if met[e] < 5 {
			t.Errorf("the bent texts have too few of %v: %v", e, met)
		}
	}
}

// Texts of any words, and of any bytes.
func TestAnyTexts(t *testing.T) {
	r := rand.New(rand.NewSource(81))
	for range 20000 {
		var s strings.Builder
		if r.Intn(3) > 0 {
			s.WriteString("locks 1\n")
		}
		for range r.Intn(8) {
			s.WriteString(someWord(r) + []string{" ", "\n"}[r.Intn(2)])
		}
		holds(t, s.String())
		bytes := make([]byte, r.Intn(30))
		r.Read(bytes)
		holds(t, string(bytes))
		holds(t, "locks 1\n"+string(bytes)+"\n")
	}
	for b := range 256 {
		holds(t, "locks 1"+string([]byte{byte(b)})+"\n"+taskLines(1))
		holds(t, "locks 1\ntask a 9 9 9"+string([]byte{byte(b)})+"run 1\n")
		holds(t, string([]byte{byte(b)})+madeText)
		holds(t, madeText+string([]byte{byte(b)}))
	}
}

func TestLongTexts(t *testing.T) {
	const n = 200000
	refuses(t, strings.Repeat("\n", n), 0, api.ErrForm)
	refuses(t, "locks 1\n"+strings.Repeat("\n", n), 1, api.ErrForm)
	refuses(t, "locks "+strings.Repeat("9", n)+"\n", 0, api.ErrNum)
	refuses(t, "locks"+strings.Repeat(" 1", n)+"\n", 0, api.ErrForm)
	refuses(t, "locks 1\n"+chanLines(n), 9, api.ErrLong)
	refuses(t, "locks 1\ntask a 9 9 9\n"+opLines(n), 50, api.ErrLong)
	refuses(t, "locks 1\ntask "+strings.Repeat("a", n)+" 9 9 9\nrun 1\n", 0, api.ErrName)
	refuses(t, "locks 1\ntask a 9 9 9\nselect -"+strings.Repeat(" recv 0", n)+"\n", 2, api.ErrMany)
}

// roomy is s with spare room in each of its lists.
func roomy(s set.Set) set.Set {
	s.Chans = append(slices.Clone(s.Chans), set.Chan{Room: 77}, set.Chan{Server: 78})[:len(s.Chans)]
	s.Tasks = append(slices.Clone(s.Tasks), set.Task{Name: "spare", Prog: []op.Op{{Kind: op.Send}}}, set.Task{Name: "more"})[:len(s.Tasks)]
	for i := range s.Tasks {
		p := s.Tasks[i].Prog
		p = append(slices.Clone(p), op.Op{Kind: op.Lock, N: 5}, op.Op{Kind: op.Recv, Wait: 9})[:len(p)]
		for j := range p {
			cases := p[j].Cases
			p[j].Cases = append(slices.Clone(cases), op.Case{Chan: 66}, op.Case{V: 67})[:len(cases)]
		}
		s.Tasks[i].Prog = p
	}
	return s
}

// whole is all of s, the spare room of its lists too.
func whole(s set.Set) string {
	var all strings.Builder
	fmt.Fprintln(&all, s.Locks, len(s.Chans), len(s.Tasks), s.Chans[:cap(s.Chans)])
	for _, task := range s.Tasks[:cap(s.Tasks)] {
		fmt.Fprintln(&all, task.Name, task.Period, task.Deadline, task.Budget, len(task.Prog))
		for _, o := range task.Prog[:cap(task.Prog)] {
			fmt.Fprintln(&all, o.Kind, o.N, o.V, o.Wait, len(o.Cases), o.Cases[:cap(o.Cases)])
		}
	}
	return all.String()
}

func TestNothingIsChanged(t *testing.T) {
	all := []set.Set{{}, made(t)}
	for at := range 3 {
		for _, w := range wrongSets(t, at) {
			all = append(all, changed(t, w.edit))
		}
	}
	for _, plain := range all {
		s := roomy(plain)
		was := whole(s)
		first, firstE := text.Print(s)
		if whole(s) != was {
			t.Errorf("P2: %s is changed to %s", was, whole(s))
		}
		if again, e := text.Print(s); again != first || e != firstE {
			t.Errorf("P3: first %q, %v, then %q, %v", first, firstE, again, e)
		}
		if bare, e := text.Print(plain); bare != first || e != firstE {
			t.Errorf("P2: with spare room %q, %v, without it %q, %v", first, firstE, bare, e)
		}
	}
}

// What is done to a set behind a call is seen by the next one, and by no answer.
func TestNothingIsKept(t *testing.T) {
	s := made(t)
	first, _ := text.Print(s)
	s.Tasks[0].Prog[0].N, s.Tasks[1].Name, s.Chans[0].Server = 5, "tap", 1
	second, _ := text.Print(s)
	if first != madeText || second != strings.NewReplacer("run 2\n", "run 5\n", "valve", "tap", "chan 4 -", "chan 4 1").Replace(madeText) {
		t.Errorf("P2: first %q, then %q", first, second)
	}
}

// spoil changes all of s, the spare room of its lists too.
func spoil(s set.Set) {
	for i := range s.Chans[:cap(s.Chans)] {
		s.Chans[:cap(s.Chans)][i] = set.Chan{Room: 91, Server: 92}
	}
	for _, task := range s.Tasks {
		spoilProg(task.Prog)
	}
	for i := range s.Tasks[:cap(s.Tasks)] {
		s.Tasks[:cap(s.Tasks)][i] = set.Task{Name: "spoilt"}
	}
}

func spoilProg(p []op.Op) {
	for _, o := range p {
		for i := range o.Cases[:cap(o.Cases)] {
			o.Cases[:cap(o.Cases)][i] = op.Case{Chan: 93}
		}
	}
	for i := range p[:cap(p)] {
		p[:cap(p)][i] = op.Op{Kind: 94}
	}
}

func TestAnswersAreNewMemory(t *testing.T) {
	first, _, _ := text.Parse(madeText)
	second, _, _ := text.Parse(madeText)
	spoil(first)
	if told(second) != told(made(t)) {
		t.Errorf("P2: what is done to one answer is seen in another one: %s", told(second))
	}
	// Each list of an answer has room of its own.
	for i := range second.Tasks {
		got, _, _ := text.Parse(madeText)
		spoilProg(got.Tasks[i].Prog)
		got.Tasks[i].Prog = ops(t, "run 1")
		if want := changed(t, func(s *set.Set) { s.Tasks[i].Prog = ops(t, "run 1") }); told(got) != told(want) {
			t.Errorf("P2: the lists of tasks share memory: %s", told(got))
		}
	}
	for _, task := range second.Tasks {
		if within(task.Name, madeText) {
			t.Errorf("P2: the name %q is a piece of the text", task.Name)
		}
	}
	a, _ := text.Print(second)
	b, _ := text.Print(second)
	if unsafe.StringData(a) == unsafe.StringData(b) {
		t.Errorf("P2: two answers are one text")
	}
}

// within tells whether part is a piece of the memory of all.
func within(part, all string) bool {
	at, from := uintptr(unsafe.Pointer(unsafe.StringData(part))), uintptr(unsafe.Pointer(unsafe.StringData(all)))
	return at >= from && at < from+uintptr(len(all))
}

func TestNoListAndAnEmptyOne(t *testing.T) {
	run := op.Op{Kind: op.Run, N: 1}
	a := set.Set{Tasks: []set.Task{{Name: "a", Period: 9, Deadline: 9, Budget: 9, Prog: []op.Op{run}}}}
	run.Cases = []op.Case{}
	b := set.Set{Chans: []set.Chan{}, Tasks: []set.Task{{Name: "a", Period: 9, Deadline: 9, Budget: 9, Prog: []op.Op{run}}}}
	for _, s := range []set.Set{a, b} {
		stands(t, s, "locks 0\ntask a 9 9 9\nrun 1\n")
	}
	a.Tasks[0].Prog, b.Tasks[0].Prog = nil, []op.Op{}
	for _, s := range []set.Set{a, b} {
		if got, e := text.Print(s); got != "" || e != api.ErrShort {
			t.Errorf("P801: Print(%s): %q, %v", told(s), got, e)
		}
	}
	for _, s := range []set.Set{{Locks: 1}, {Locks: 1, Tasks: []set.Task{}, Chans: []set.Chan{}}} {
		if got, e := text.Print(s); got != "" || e != api.ErrMany {
			t.Errorf("P801: Print(%s): %q, %v", told(s), got, e)
		}
	}
}

// Whatever plain data it is: Print ends, does not panic, changes nothing.
func TestAnySets(t *testing.T) {
	r := rand.New(rand.NewSource(82))
	numbers := []int64{math.MinInt64, -1 << 40, -33, -2, -1, 0, 1, 2, 7, 8, 9, 12, 17, 1000, 1001, 1 << 31, 1 << 40, 1<<40 + 1, math.MaxInt64}
	number := func() int64 { return numbers[r.Intn(len(numbers))] }
	for range 3000 {
		s := set.Set{Locks: int(number())}
		for range r.Intn(10) {
			s.Chans = append(s.Chans, set.Chan{Room: int(number()), Server: int(number())})
		}
		for range r.Intn(14) {
			task := set.Task{Name: []string{"", "a", "b", "\xff", strings.Repeat("a", 9)}[r.Intn(5)], Period: number(), Deadline: number(), Budget: number()}
			for range r.Intn(9) {
				o := op.Op{Kind: r.Intn(12) - 1, N: number(), V: number(), Wait: number()}
				for range r.Intn(3) {
					o.Cases = append(o.Cases, op.Case{Send: r.Intn(2) == 0, Chan: int(number()), V: number()})
				}
				task.Prog = append(task.Prog, o)
			}
			s.Tasks = append(s.Tasks, task)
		}
		was := whole(s)
		want, wantE := modelPrint(s)
		if got, e := text.Print(s); got != want || e != wantE || whole(s) != was {
			t.Errorf("P801: Print(%s): %q, %v, not %q, %v", told(s), got, e, want, wantE)
		}
	}
}
