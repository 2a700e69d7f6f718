package text_test

import (
	"fmt"
	"strings"
	"testing"

	"watchbill/api"
	"watchbill/op"
	"watchbill/set"
	"watchbill/text"
)

func TestParseOfAnOrdinaryText(t *testing.T) {
	if got := takes(t, madeText); told(got) != told(made(t)) {
		t.Errorf("P801: Parse(%q): %s", madeText, told(got))
	}
	takes(t, "locks 0\ntask z 1 1 1\nrun 1\n")
	for _, p := range progs() {
		takes(t, "locks 8\n"+chanLines(8)+"task a 9 9 9\n"+joined(p)+"task b 9 9 9\n"+joined(p))
	}
}

// Without its last 0A a text has no lines, whatever is wrong in one of them.
func TestParseOfNoLines(t *testing.T) {
	refuses(t, "", 0, api.ErrForm)
	for _, s := range []string{
		"l", "locks 1", "locks 99999999999", " ", "\r", "\x00", strings.TrimSuffix(madeText, "\n"), madeText + " ", madeText + "x", madeText + "\r", madeText + "\n\x0b",
		"locks 1\ntask a 9 9 9\nrun 0", "locks 1\nchan 99999999999 -", "locks 1\nlocks 1\nlocks 1", "locks 1\n" + chanLines(9) + "chan",
	} {
		refuses(t, s, 0, api.ErrForm)
	}
	// Cut off within a line it is no text.
	for i := 1; i < len(madeText); i++ {
		if madeText[i-1] != '\n' {
			refuses(t, madeText[:i], 0, api.ErrForm)
		}
	}
}

// split is the lines of madeText.
func split() []string { return strings.Split(strings.TrimSuffix(madeText, "\n"), "\n") }

// withLine is madeText with another line at that place.
func withLine(at int, line string) string {
	lines := split()
	lines[at] = line
	return strings.Join(lines, "\n") + "\n"
}

func TestParseOfNoWords(t *testing.T) {
	for at, line := range split() {
		first, rest, _ := strings.Cut(line, " ")
		for _, wrong := range []string{
			" " + line, line + " ", first + "  " + rest, first + "\t" + rest, line + "\t", line + "\r", line + "\x00", line + "\x7f", line + "\x80", line + "\xc3\xa9",
			"\ufeff" + line, " ", "  ", "\t", line + " 99999999999999999999 ", first + "  99999999999999999999",
		} {
			refuses(t, withLine(at, wrong), at, api.ErrForm)
		}
		refuses(t, withLine(at, ""), at, api.ErrForm)
	}
	refuses(t, "\n", 0, api.ErrForm)
	refuses(t, "\n"+madeText, 0, api.ErrForm)
	refuses(t, madeText+"\n", 19, api.ErrForm)
	refuses(t, madeText+"\n\n\n", 19, api.ErrForm)
}

// wrongFirst is lines that begin with no word of a text.
func wrongFirst() []string {
	return []string{
		"jump", "jump 1", "RUN 1", "Run 1", "runs 1", "ru 1", "run1", "-", "0", "1 run", "a", "ends", "en", "End", "chans 1 -", "Chan 1 -", "cha 1 -", "tasks a 9 9 9",
		"TASK a 9 9 9", "tas a 9 9 9", "lo 1", "lockss 1", "Locks 1", "#", "//", "jump 99999999999999999999", "pump 100 80 60", "~", "!", "unlocks 1", "selects - recv 0",
	}
}

func TestParseOfTheFirstLine(t *testing.T) {
	rest := joined("task a 9 9 9;run 1")
	for _, line := range append(wrongFirst(), "", "chan 1 -", "chan 99999999999 -", "chan", "task a 9 9 9", "task a 99999999999999999999 9 9", "lock 1", "lock", "run 1", "run 0", "run 99999999999999999999", "select -", "end", "loop 0") {
		refuses(t, line+"\n", 0, api.ErrForm)
		refuses(t, line+"\n"+rest, 0, api.ErrForm)
		refuses(t, line+"\nlocks 1\n"+rest, 0, api.ErrForm)
	}
	takes(t, "locks 1\n"+rest)
	refuses(t, rest, 0, api.ErrForm)
}

func TestParseOfOtherFirstWords(t *testing.T) {
	lines := split()
	for at := 1; at <= len(lines); at++ {
		ahead := strings.Join(lines[:at], "\n") + "\n"
		for _, line := range append(wrongFirst(), "", "locks 3", "locks", "locks 99999999999", "locks x") {
			refuses(t, ahead+line+"\n", at, api.ErrForm)
			refuses(t, ahead+line+"\n"+strings.Join(lines[at:], "\n")+"\n", at, api.ErrForm)
		}
		if at > 4 {
			refusesEach(t, map[string]string{
				strings.Join(lines[:at], apart) + ";chan 1 -":           fmt.Sprint(at, " form"),
				strings.Join(lines[:at], apart) + ";chan":               fmt.Sprint(at, " form"),
				strings.Join(lines[:at], apart) + ";chan 99999999999 -": fmt.Sprint(at, " form"),
			})
		}
	}
}

// Ahead of all tasks an op is told as another word, whatever else is wrong.
func TestParseOfOpsAheadOfTasks(t *testing.T) {
	for _, line := range []string{"run 1", "run 0", "run", "run 99999999999999999999", "lock 0", "unlock 0", "send 0 1 -", "recv 0 -", "close 0", "close 8", "select - recv 0", "select -", "loop 1", "loop 33", "end", "end 1"} {
		refuses(t, "locks 1\n"+line+"\n", 1, api.ErrForm)
		refuses(t, "locks 1\nchan 1 -\n"+line+"\n", 2, api.ErrForm)
		refuses(t, "locks 1\n"+chanLines(8)+line+"\ntask a 9 9 9\nrun 1\n", 9, api.ErrForm)
	}
}

func TestParseOfHowManyChans(t *testing.T) {
	tail := taskLines(1)
	for n := range api.MaxChans + 1 {
		if got := takes(t, "locks 1\n"+chanLines(n)+tail); len(got.Chans) != n {
			t.Errorf("P801: %d channels are told of %d", len(got.Chans), n)
		}
	}
	full := "locks 1\n" + chanLines(api.MaxChans)
	for _, line := range []string{"chan 1 -", "chan", "chan x y", "chan 1 - 1", "chan 99999999999999999999 -", "chan 1 -1", "chan 99999999999 99999999999"} {
		refuses(t, full+line+"\n", 9, api.ErrLong)
		refuses(t, full+line+"\n"+tail, 9, api.ErrLong)
		refuses(t, full+line+"\nchan 1 -\njump\n", 9, api.ErrLong)
		// The last one that may be is not one too many.
		if _, at, e := text.Parse("locks 1\n" + chanLines(7) + line + "\n" + tail); e == api.ErrLong || at != 8 && e != api.OK {
			t.Errorf("P801: %q as the last channel: %d, %v", line, at, e)
		}
	}
	for _, line := range []string{"", "chan  1 -", "chan ", "chans 1 -", "locks 1", "run 1"} {
		refuses(t, full+line+"\n", 9, api.ErrForm)
	}
	// Behind a task it is the place that is wrong, not how many there are.
	refuses(t, full+tail+"chan 1 -\n", 11, api.ErrForm)
}

func TestParseOfHowManyTasks(t *testing.T) {
	for n := 1; n <= api.MaxTasks; n++ {
		if got := takes(t, "locks 1\n"+chanLines(8)+taskLines(n)); len(got.Tasks) != n {
			t.Errorf("P801: %d tasks are told of %d", len(got.Tasks), n)
		}
	}
	full := "locks 1\n" + taskLines(api.MaxTasks)
	for _, line := range []string{"task z 9 9 9", "task a 9 9 9", "task", "task z 9 9", "task z 9 9 9 9", "task z x y z", "task Z 99999999999999999999 9 9"} {
		refuses(t, full+line+"\n", 25, api.ErrLong)
		refuses(t, full+line+"\nrun 1\n", 25, api.ErrLong)
		refuses(t, full+opLines(47)+line+"\n", 72, api.ErrLong)
	}
	for _, line := range []string{"", "task  z 9 9 9", " task z 9 9 9", "tasks z 9 9 9", "locks 1", "chan 1 -"} {
		refuses(t, full+line+"\n", 25, api.ErrForm)
	}
	// Tasks without an op are counted, too.
	refuses(t, "locks 1\n"+strings.Repeat("task a 9 9 9\n", 13), 13, api.ErrLong)
	refuses(t, "locks 1\n"+strings.Repeat("task a 9 9 9\n", 12), 0, api.ErrShort)
	refuses(t, "locks 1\n"+strings.Repeat("task a 9 9 9\n", 11)+"task\n", 12, api.ErrForm)
}

func TestParseOfHowManyOps(t *testing.T) {
	for n := 1; n <= api.MaxOps; n++ {
		got := takes(t, "locks 1\ntask a 9 9 9\n"+opLines(n)+"task b 9 9 9\n"+opLines(api.MaxOps+1-n))
		if len(got.Tasks) != 2 || len(got.Tasks[0].Prog) != n || len(got.Tasks[1].Prog) != api.MaxOps+1-n {
			t.Errorf("P801: %s is told of %d and %d ops", told(got), n, api.MaxOps+1-n)
		}
	}
	for tasks := 1; tasks <= api.MaxTasks; tasks++ {
		full := "locks 1\n"
		for i := range tasks {
			full += fmt.Sprintf("task %c 9 9 9\n", 'a'+i) + opLines(api.MaxOps)
		}
		takes(t, full)
		last := 1 + tasks*(api.MaxOps+1)
		for _, line := range []string{"run 1", "run", "run 0", "run x", "run 99999999999999999999", "lock 8", "unlock 0", "send 0 1 -1", "recv", "close 9", "select", "select - recv", "loop 1", "end", "end 1"} {
			refuses(t, full+line+"\n", last, api.ErrLong)
			refuses(t, full+line+"\nrun 1\ntask z 9 9 9\n", last, api.ErrLong)
		}
		for _, line := range []string{"", "jump", "run  1", "run 1 ", "runs 1", "locks 1", "chan 1 -", "End"} {
			refuses(t, full+line+"\n", last, api.ErrForm)
		}
	}
	// The last one that may be is not one too many, whatever it is.
	refuses(t, "locks 1\ntask a 9 9 9\n"+opLines(47)+"run\n", 49, api.ErrForm)
	refuses(t, "locks 1\ntask a 9 9 9\n"+opLines(47)+"run 0\n", 49, api.ErrArg)
}

// wrongOps is each of op.Parse's errors, in lines that begin with an op's word.
func wrongOps() map[string]api.Errno {
	return map[string]api.Errno{
		"run": api.ErrForm, "run 1 1": api.ErrForm, "end 1": api.ErrForm, "lock": api.ErrForm, "unlock 1 2": api.ErrForm, "send 0 1": api.ErrForm, "send 0 1 - -": api.ErrForm,
		"recv 0": api.ErrForm, "recv 0 1 -": api.ErrForm, "close": api.ErrForm, "loop": api.ErrForm, "select": api.ErrForm, "select - run 1": api.ErrForm, "select - recv": api.ErrForm,
		"select - send 0": api.ErrForm, "select - recv 0 send 1": api.ErrForm, "run x": api.ErrForm, "run 01": api.ErrForm, "run -0": api.ErrForm, "run +1": api.ErrForm, "run -": api.ErrForm,
		"send 0 x -": api.ErrForm, "send 0 1 -1": api.ErrForm, "recv 0 -2": api.ErrForm, "select -1 recv 0": api.ErrForm, "select x recv 0": api.ErrForm, "select - recv x": api.ErrForm,
		"run " + tooGreat: api.ErrNum, "lock " + tooSmall: api.ErrNum, "send 0 " + tooGreat + " -": api.ErrNum, "send 0 " + tooGreat + " x": api.ErrNum, "recv 0 " + tooGreat: api.ErrNum,
		"select " + tooGreat + " recv x": api.ErrNum, "select - send 0 " + tooSmall: api.ErrNum, "send x " + tooGreat + " -": api.ErrForm,
		"run 0": api.ErrArg, "run 1001": api.ErrArg, "run -1": api.ErrArg, "lock 8": api.ErrArg, "lock -1": api.ErrArg, "unlock 8": api.ErrArg, "send 8 1 -": api.ErrArg, "send 0 1 1001": api.ErrArg,
		"recv 8 -": api.ErrArg, "recv 0 1001": api.ErrArg, "close 8": api.ErrArg, "loop 0": api.ErrArg, "loop 33": api.ErrArg, "select 1001 recv 0": api.ErrArg, "select - recv 8": api.ErrArg,
		"select -": api.ErrMany, "select 0 recv 0 recv 1 recv 2 recv 3 recv 4": api.ErrMany, "select - recv 1 send 1 0": api.ErrTwice,
	}
}

func TestParseOfWrongOps(t *testing.T) {
	for line, want := range wrongOps() {
		if _, e := op.Parse(line); e != want {
			t.Errorf("P502: Parse(%q): %v, not %v", line, e, want)
		}
		refuses(t, "locks 1\ntask a 9 9 9\n"+line+"\n", 2, want)
		refuses(t, "locks 1\ntask a 9 9 9\nrun 1\n"+line+"\nrun 1\n", 3, want)
		refuses(t, madeText+line+"\n", 19, want)
		for at, was := range split() {
			if at > 4 && !strings.HasPrefix(was, "task") {
				refuses(t, withLine(at, line), at, want)
			}
		}
		// What only the whole set is wrong in is told later.
		refuses(t, "locks 99\ntask A 0 0 0\nend\n"+line+"\n", 3, want)
	}
}

func TestParseOfHowManyWords(t *testing.T) {
	for _, line := range []string{"locks", "locks 1 2", "locks 1 1 1", "locks x 1", "locks 99999999999999999999 1", "locks 99999999999 x"} {
		refuses(t, line+"\n", 0, api.ErrForm)
		refuses(t, line+"\n"+taskLines(1), 0, api.ErrForm)
	}
	for _, line := range []string{"chan", "chan 1", "chan -", "chan 1 - 1", "chan 1 - -", "chan 99999999999", "chan 99999999999999999999", "chan 99999999999999999999 - 1", "chan 1 99999999999 -"} {
		refuses(t, "locks 1\n"+line+"\n", 1, api.ErrForm)
		refuses(t, "locks 1\nchan 1 -\n"+line+"\n"+taskLines(1), 2, api.ErrForm)
	}
	for _, line := range []string{
		"task", "task a", "task a 9", "task a 9 9", "task a 9 9 9 9", "task a 9 9 9 9 9", "task 9 9 9", "task a b 9 9 9",
		"task a 9 99999999999999999999", "task a 99999999999999999999 9 9 9", "task a 9 9 9 99999999999999999999",
	} {
		refuses(t, "locks 1\n"+line+"\n", 1, api.ErrForm)
		refuses(t, "locks 1\nchan 1 -\n"+line+"\nrun 1\n", 2, api.ErrForm)
		refuses(t, madeText+line+"\nrun 1\n", 19, api.ErrForm)
	}
}

// noNumbers is words that are no number, and too great ones, with their error.
func noNumbers() map[string]api.Errno {
	all := map[string]api.Errno{tooGreat: api.ErrNum, tooSmall: api.ErrNum, "99999999999999999999": api.ErrNum, "-99999999999999999999": api.ErrNum}
	for _, word := range []string{"x", "-0", "00", "01", "-01", "+1", "1.", "1.0", "1e3", "0x1", "1x", "x1", "--1", "1-", "1_0", "--", "~", "099999999999999999999", "99999999999999999999x"} {
		all[word] = api.ErrForm
	}
	return all
}

// numbered is lines with a number at each N, with which they are right.
func numbered() []string {
	return []string{"locks N", "chan N 0", "chan 1 N", "task z N 9 9", "task z 9 N 9", "task z 9 9 N"}
}

func TestParseOfNoNumbers(t *testing.T) {
	for _, line := range numbered() {
		ahead := "locks 1\n"
		if strings.HasPrefix(line, "locks") {
			ahead = ""
		}
		for word, want := range noNumbers() {
			wrong := strings.ReplaceAll(line, "N", word) + "\n"
			refuses(t, ahead+wrong, strings.Count(ahead, "\n"), want)
			refuses(t, ahead+wrong+taskLines(2), strings.Count(ahead, "\n"), want)
			if ahead != "" {
				refuses(t, ahead+"chan 1 -\nchan 0 0\n"+wrong+"chan x -\n", 3, want)
			}
			if strings.HasPrefix(line, "task") {
				refuses(t, madeText+wrong+"run 1\n", 19, want)
			}
		}
		if line != "chan 1 N" {
			refuses(t, ahead+strings.ReplaceAll(line, "N", "-")+"\n", strings.Count(ahead, "\n"), api.ErrForm)
		}
	}
	// A NAME is any word till the whole set is looked at.
	for _, name := range []string{"x", "-", "1", "A", "ninemarks", "task", "99999999999999999999", "~"} {
		refuses(t, "locks 1\ntask "+name+" x 9 9\nrun 1\n", 1, api.ErrForm)
		refuses(t, "locks 1\ntask "+name+" 9 9 "+tooGreat+"\nrun 1\n", 1, api.ErrNum)
	}
}

// Of two words that are wrong the left one is told.
func TestParseOfTwoWrongWords(t *testing.T) {
	for first, want := range noNumbers() {
		for second := range noNumbers() {
			refusesEach(t, map[string]string{
				"locks 1;chan " + first + " " + second:                fmt.Sprint("1 ", want),
				"locks 1;task a " + first + " " + second + " 9":       fmt.Sprint("1 ", want),
				"locks 1;task a " + first + " 9 " + second:            fmt.Sprint("1 ", want),
				"locks 1;task a 9 " + first + " " + second + ";run 1": fmt.Sprint("1 ", want),
			})
		}
	}
	refusesEach(t, map[string]string{
		"locks 1;chan 2147483648 x":                     "1 num",
		"locks 1;chan 2147483648 -1":                    "1 num",
		"locks 1;chan -2147483649 -1":                   "1 num",
		"locks 1;chan x 2147483648":                     "1 form",
		"locks 1;chan -1 x":                             "1 form",
		"locks 1;chan 17 2147483648":                    "1 num",
		"locks 1;chan 2147483647 -1":                    "1 form",
		"locks 1;chan -1 2147483648":                    "1 num",
		"locks 1;task A 0 x 9":                          "1 form",
		"locks 1;task a 1099511627777 0 " + tooGreat:    "1 num",
		"locks 1;task a x " + tooGreat + " " + tooSmall: "1 form",
	})
}

func TestParseOfAServer(t *testing.T) {
	tail := joined("task a 9 9 9;run 1;task b 9 9 9;run 1")
	for word, want := range map[string]int{"-": -1, "0": 0, "1": 1} {
		if got := takes(t, "locks 1\nchan 3 "+word+"\n"+tail); len(got.Chans) != 1 || got.Chans[0] != (set.Chan{Room: 3, Server: want}) {
			t.Errorf("P801: the server %s is told as %+v", word, got.Chans)
		}
	}
	for _, word := range []string{"-1", "-2", "-9", "-2147483648", "-2147483649", "-4294967295", "-99999999999", "-9223372036854775808", "--", "-0"} {
		refuses(t, "locks 1\nchan 3 "+word+"\n"+tail, 1, api.ErrForm)
		refuses(t, "locks 1\nchan 3 -\nchan 17 "+word+"\n"+tail, 2, api.ErrForm)
	}
	refuses(t, "locks 1\nchan 3 "+tooSmall+"\n"+tail, 1, api.ErrNum)
	refuses(t, "locks 1\nchan 3 2\n"+tail, 0, api.ErrArg)
	refuses(t, "locks 1\nchan 3 12\n"+tail, 0, api.ErrArg)
}

func TestParseBeyond32Bits(t *testing.T) {
	tail := taskLines(3)
	within := []string{"2147483647", "2147483646", "100", "17"}
	past := []string{"2147483648", "2147483649", "4294967295", "4294967296", "4294967297", "99999999999", "1099511627776", "9223372036854775807"}
	below := []string{"-1", "-2", "-2147483647", "-2147483648"}
	pastBelow := []string{"-2147483649", "-4294967295", "-4294967296", "-4294967297", "-99999999999", "-9223372036854775808"}
	for _, n := range append(within, below...) {
		refuses(t, "locks "+n+"\n"+tail, 0, api.ErrArg)
		refuses(t, "locks 1\nchan "+n+" -\n"+tail, 0, api.ErrArg)
		refuses(t, "locks 1\nchan "+n+" -\njump\n", 2, api.ErrForm)
	}
	for _, n := range append(past, pastBelow...) {
		refuses(t, "locks "+n+"\n"+tail, 0, api.ErrNum)
		refuses(t, "locks 1\nchan "+n+" -\n"+tail, 1, api.ErrNum)
		refuses(t, "locks 1\nchan 1 -\nchan "+n+" 0\n"+tail, 2, api.ErrNum)
	}
	for _, n := range within {
		refuses(t, "locks 1\nchan 1 "+n+"\n"+tail, 0, api.ErrArg)
	}
	for _, n := range past {
		refuses(t, "locks 1\nchan 1 "+n+"\n"+tail, 1, api.ErrNum)
	}
	for _, n := range append(below, pastBelow...) {
		refuses(t, "locks 1\nchan 1 "+n+"\n"+tail, 1, api.ErrForm)
	}
}

// Times may be beyond 32 bits.
func TestParseOfGreatTimes(t *testing.T) {
	for _, n := range []string{"2147483647", "2147483648", "4294967296", "4294967297", "1099511627775", "1099511627776"} {
		takes(t, "locks 1\ntask a "+n+" 1 1\nrun 1\n")
		takes(t, "locks 1\ntask a "+n+" "+n+" "+n+"\nrun 1\n")
	}
	for _, n := range []string{"1099511627777", "9223372036854775807", "-9223372036854775808", "-1", "0"} {
		refuses(t, "locks 1\ntask a "+n+" 1 1\nrun 1\n", 0, api.ErrArg)
		refuses(t, "locks 1\ntask a 9 "+n+" 1\nrun 1\n", 0, api.ErrArg)
		refuses(t, "locks 1\ntask a 9 9 "+n+"\nrun 1\n", 0, api.ErrArg)
	}
}

// What only the whole set is wrong in is told at 0, wherever it stands.
func TestParseOfWhatSetCheckRefuses(t *testing.T) {
	refusesEach(t, map[string]string{
		"locks 1": "0 many", "locks 9": "0 arg", "locks 1;chan 1 -": "0 many", "locks 1;chan 17 -": "0 many",
		"locks 9;task a 9 9 9;run 1":                            "0 arg",
		"locks -1;task a 9 9 9;run 1":                           "0 arg",
		"locks 1;chan 17 -;task a 9 9 9;run 1":                  "0 arg",
		"locks 1;chan -1 -;task a 9 9 9;run 1":                  "0 arg",
		"locks 1;chan 1 1;task a 9 9 9;run 1":                   "0 arg",
		"locks 1;task A 9 9 9;run 1":                            "0 name",
		"locks 1;task abcdefghi 9 9 9;run 1":                    "0 name",
		"locks 1;task - 9 9 9;run 1":                            "0 name",
		"locks 1;task 9 9 9 9;run 1":                            "0 name",
		"locks 1;task a 9 9 9;run 1;task a 9 9 9;run 1":         "0 twice",
		"locks 1;task a 0 9 9;run 1":                            "0 arg",
		"locks 1;task a 9 10 9;run 1":                           "0 arg",
		"locks 1;task a 9 8 9;run 1":                            "0 arg",
		"locks 1;task a 9 9 0;run 1":                            "0 arg",
		"locks 1;task a 9 9 9;end":                              "0 order",
		"locks 1;task a 9 9 9;run 1;loop 2":                     "0 order",
		"locks 1;task a 9 9 9;run 1;lock 0":                     "0 order",
		"locks 1;task a 9 9 9;loop 32;loop 32;run 1;end;end":    "0 long",
		"locks 1;task a 9 9 9":                                  "0 short",
		"locks 1;task a 9 9 9;lock 0;unlock 0":                  "0 short",
		"locks 1;task a 9 9 9;run 1;task b 9 9 9":               "0 short",
		"locks 1;task a 9 9 9;task b 9 9 9;run 1":               "0 short",
		"locks 1;task a 9 9 9;run 1;lock 1;unlock 1":            "0 name",
		"locks 1;task a 9 9 9;run 1;task b 9 9 9;run 1;close 0": "0 name",
		"locks 1;task a 9 9 9;run 1;select 0 recv 0":            "0 name",
		// In set.Check's order.
		"locks 9;chan 17 -;task A 9 9 9;run 1":    "0 arg",
		"locks 1;chan 17 -;task A 9 9 9;run 1":    "0 arg",
		"locks 1;task A 0 0 0;end":                "0 name",
		"locks 1;task a 9 9 9;end;task a 9 9 9":   "0 order",
		"locks 1;task a 9 9 9;run 1;task a 0 0 0": "0 twice",
		"locks 1;task a 9 9 0;end":                "0 arg",
		// Of any line that is wrong it is told ahead of these.
		"locks 9;task A 0 0 0;end;run x":                   "3 form",
		"locks 9;chan 17 99;chan 1 -1":                     "2 form",
		"locks 9;jump":                                     "1 form",
		"locks 1;task a 9 9 9;end;task a 9 9 9;end;run 0":  "5 arg",
		"locks 1;task a 9 9 9;task a 9 9 9;task a 9 9 9 9": "3 form",
	})
}

// fault is a line that is wrong, where it stands for one of that first word.
type fault struct {
	of, line string
	want     api.Errno
}

func faults() []fault {
	return []fault{
		{"locks", "locks  3", api.ErrForm}, {"locks", "jump", api.ErrForm}, {"locks", "locks", api.ErrForm}, {"locks", "locks x", api.ErrForm}, {"locks", "locks " + tooGreat, api.ErrNum},
		{"locks", "locks 2147483648", api.ErrNum}, {"chan", "chan 1 - ", api.ErrForm}, {"chan", "chan 1", api.ErrForm}, {"chan", "chan x -", api.ErrForm}, {"chan", "chan 1 " + tooGreat, api.ErrNum},
		{"chan", "chan 1 -1", api.ErrForm}, {"chan", "chan 2147483648 -", api.ErrNum}, {"chan", "chan 1 2147483648", api.ErrNum}, {"chan", "run 1", api.ErrForm}, {"chan", "locks 1", api.ErrForm},
		{"task", "task a 9 9", api.ErrForm}, {"task", "task a 9 9 x", api.ErrForm}, {"task", "task a " + tooGreat + " 9 9", api.ErrNum}, {"task", "", api.ErrForm},
		{"op", "run", api.ErrForm}, {"op", "run 0", api.ErrArg}, {"op", "run " + tooGreat, api.ErrNum}, {"op", "select -", api.ErrMany}, {"op", "select - recv 0 recv 0", api.ErrTwice}, {"op", "jump 1", api.ErrForm},
		{"op", "chan 1 -", api.ErrForm}, {"op", "locks 3", api.ErrForm},
	}
}

// standsFor tells whether a wrong line stands for lines such as that one.
func (f fault) standsFor(line string) bool {
	first, _, _ := strings.Cut(line, " ")
	return first == f.of || f.of == "op" && first != "locks" && first != "chan" && first != "task"
}

// Of two lines that are wrong the first one is told.
func TestParseOfTwoWrongLines(t *testing.T) {
	met := 0
	for i, line := range split() {
		for _, a := range faults() {
			if !a.standsFor(line) {
				continue
			}
			refuses(t, withLine(i, a.line), i, a.want)
			for j := i + 1; j < len(split()); j++ {
				for _, b := range faults() {
					if !b.standsFor(split()[j]) {
						continue
					}
					lines := split()
					lines[i], lines[j] = a.line, b.line
					refuses(t, strings.Join(lines, "\n")+"\n", i, a.want)
					met++
				}
			}
		}
	}
	if met < 5000 {
		t.Errorf("only %d pairs are looked at", met)
	}
}

// Of one line that is wrong in two ways the first in the promise's order is told.
func TestParseOfALineWrongInTwoWays(t *testing.T) {
	chans := strings.TrimSuffix(strings.ReplaceAll("locks 1\n"+chanLines(8), "\n", apart), apart)
	tasks := strings.TrimSuffix(strings.ReplaceAll("locks 1\n"+taskLines(12), "\n", apart), apart)
	steps := strings.TrimSuffix(strings.ReplaceAll("locks 1\ntask a 9 9 9\n"+opLines(48), "\n", apart), apart)
	refusesEach(t, map[string]string{
		// word.Split's ahead of all others.
		"locks " + tooGreat + " ": "0 form", "locks 1;chan " + tooGreat + "  -": "1 form", chans + ";chan ": "9 form", tasks + "; task": "25 form", steps + ";run\t1": "50 form",
		"locks 1;task a 9 9 9;run 0 ": "2 form", "locks 1;task a 9 9 9;select - recv 1 recv 1 ": "2 form",
		// The first word ahead of how many there are, of an op's errors, of numbers.
		"task a " + tooGreat + " 9 9": "0 form", "locks 1;run 0": "1 form", "locks 1;select -": "1 form", "locks 1;locks " + tooGreat: "1 form",
		chans + ";run 1": "9 form", tasks + ";chan 1 -": "25 form", steps + ";jump 0": "50 form", steps + ";chan " + tooGreat + " -": "50 form", steps + ";locks 2147483648": "50 form",
		// How many there are ahead of an op's errors, of words, of numbers.
		chans + ";chan": "9 long", chans + ";chan x -": "9 long", chans + ";chan " + tooGreat + " -": "9 long", chans + ";chan 1 -1": "9 long", tasks + ";task a": "25 long",
		tasks + ";task a x 9 9": "25 long", tasks + ";task a 9 9 " + tooGreat: "25 long", steps + ";run": "50 long", steps + ";run 0": "50 long", steps + ";run " + tooGreat: "50 long",
		steps + ";select -": "50 long", steps + ";select - recv 1 recv 1": "50 long",
		// How many words ahead of numbers.
		"locks " + tooGreat + " 1": "0 form", "locks 1;chan " + tooGreat: "1 form", "locks 1;chan 2147483648 - -": "1 form", "locks 1;task a " + tooGreat + " 9": "1 form",
		// Of one number: word.Number's, below 0, beyond 32 bits.
		"locks 1;chan 1 " + tooSmall: "1 num", "locks 1;chan 1 -2147483649": "1 form", "locks 1;chan 1 -02147483649": "1 form",
	})
}
