package report_test

import (
	"fmt"
	"math"
	"slices"
	"testing"

	"watchbill/api"
	"watchbill/report"
)

// textIs is of r, whatever its Ceils are.
func textIs(t *testing.T, r report.Report, lines ...string) {
	t.Helper()
	want := ""
	for _, line := range lines {
		want += line + "\n"
	}
	for _, ceils := range [][]int{r.Ceils, nil, {}, {7}, {1, 2, 3}, slices.Repeat([]int{-5}, 40)} {
		r.Ceils = ceils
		if got := report.Text(r); got != want {
			t.Errorf("P1301: Text(%v): %q, not %q", r, got, want)
		}
	}
}

func TestTextOfNoTask(t *testing.T) {
	textIs(t, report.Report{})
	textIs(t, report.Report{Prios: []int{}, Ceils: []int{}, Block: []int64{}, Resp: []int64{}})
}

func TestText(t *testing.T) {
	textIs(t, report.Report{Prios: []int{1}, Block: []int64{0}, Resp: []int64{5}}, "0 1 0 5")
	textIs(t, report.Report{Prios: []int{2, 4, 1, 3}, Ceils: []int{3, 4}, Block: []int64{20, 0, 7, 123}, Resp: []int64{14, 4, 24, 1000000}},
		"0 2 20 14", "1 4 0 4", "2 1 7 24", "3 3 123 1000000")
}

// TestTextOfManyTasks: numbers beyond those that a set may have, each of as
// many digits as it has.
func TestTextOfManyTasks(t *testing.T) {
	var r report.Report
	var lines []string
	for i := range 1234 {
		r.Prios, r.Block, r.Resp = append(r.Prios, 1234-i), append(r.Block, int64(i*i)), append(r.Resp, int64(-i))
		n := 0 - i
		lines = append(lines, fmt.Sprintf("%d %d %d %d", i, 1234-i, i*i, n))
	}
	textIs(t, r, lines...)
}

// TestTextOfUnlikeLists: as long as all three have one; each is the shortest in
// turn, and nothing.
func TestTextOfUnlikeLists(t *testing.T) {
	prios, block, resp := []int{4, 3, 2, 1}, []int64{50, 60, 70, 80}, []int64{11, 12, 13, 14}
	lines := []string{"0 4 50 11", "1 3 60 12", "2 2 70 13", "3 1 80 14"}
	for i := range 5 {
		for j := range 5 {
			for k := range 5 {
				textIs(t, report.Report{Prios: prios[:i], Block: block[:j], Resp: resp[:k]}, lines[:min(i, j, k)]...)
				textIs(t, report.Report{Prios: slices.Clone(prios[:i]), Block: slices.Clip(block[:j]), Resp: slices.Clip(resp[:k])}, lines[:min(i, j, k)]...)
			}
		}
	}
	textIs(t, report.Report{Block: block, Resp: resp})
	textIs(t, report.Report{Prios: prios, Resp: resp})
	textIs(t, report.Report{Prios: prios, Block: block})
	textIs(t, report.Report{Prios: prios})
	textIs(t, report.Report{Ceils: []int{1, 2, 3}})
	textIs(t, report.Report{Prios: []int{1, 2}, Block: []int64{-5}, Resp: []int64{1, 2, 3}}, "0 1 -5 1")
}

func TestTextOfNumbersAtTheBounds(t *testing.T) {
	const least, most = "-9223372036854775808", "9223372036854775807"
	textIs(t, report.Report{
		Prios: []int{-1, math.MinInt, math.MaxInt, 0, 10},
		Block: []int64{-20, math.MaxInt64, math.MinInt64, 0, 1 << 40},
		Resp:  []int64{-300, math.MinInt64, math.MaxInt64, 0, -1 << 32},
	}, "0 -1 -20 -300", "1 "+least+" "+most+" "+least, "2 "+most+" "+least+" "+most, "3 0 0 0", "4 10 1099511627776 -4294967296")
}

// TestTextOfASet: what Of tells, in words.
func TestTextOfASet(t *testing.T) {
	r, which, e := report.Of(taken(t, ordinary))
	if which != 0 || e != api.OK {
		t.Errorf("P1301: %d, %v", which, e)
	}
	textIs(t, r, "0 2 2 14", "1 4 2 4", "2 1 0 24", "3 3 2 7")
	r, _, _ = report.Of(taken(t, "locks 0;task b 9 2 2;run 2;task a 1 1 1;run 1"))
	textIs(t, r)
}

// roomyReport is r with spare room behind each of its lists.
func roomyReport(r report.Report) report.Report {
	return report.Report{
		Prios: append(slices.Clone(r.Prios), 71, 72, 73)[:len(r.Prios)],
		Ceils: append(slices.Clone(r.Ceils), 74, 75)[:len(r.Ceils)],
		Block: append(slices.Clone(r.Block), 76, 77, 78)[:len(r.Block)],
		Resp:  append(slices.Clone(r.Resp), 79, 80)[:len(r.Resp)],
	}
}

// wholeReport is all of r, the spare room of its lists too.
func wholeReport(r report.Report) string {
	return fmt.Sprint(len(r.Prios), len(r.Ceils), len(r.Block), len(r.Resp),
		r.Prios[:cap(r.Prios)], r.Ceils[:cap(r.Ceils)], r.Block[:cap(r.Block)], r.Resp[:cap(r.Resp)])
}

// TestTextChangesAndKeepsNothing: what lies in the spare room is not looked at.
func TestTextChangesAndKeepsNothing(t *testing.T) {
	for _, plain := range []report.Report{{}, {Prios: []int{3}, Ceils: []int{4}, Block: []int64{5}, Resp: []int64{6}}, {Prios: []int{2, 1}, Block: []int64{8}, Resp: []int64{9, 10, 11}}} {
		r := roomyReport(plain)
		before, want := wholeReport(r), report.Text(plain)
		if got := report.Text(r); got != want {
			t.Errorf("P2: Text(%s): %q with spare room, %q without", before, got, want)
		}
		if after := wholeReport(r); after != before {
			t.Errorf("P2: %s is changed to %s", before, after)
		}
		if again := report.Text(r); again != want {
			t.Errorf("P3: Text(%s): %q at first, then %q", before, want, again)
		}
	}
	r := report.Report{Prios: []int{3, 4}, Block: []int64{5, 6}, Resp: []int64{7, 8}}
	told := report.Text(r)
	r.Prios[1], r.Block[0], r.Resp[0] = 40, 50, 70
	if want := "0 3 5 7\n1 4 6 8\n"; told != want {
		t.Errorf("P2: %q, not %q", told, want)
	}
	textIs(t, r, "0 3 50 70", "1 40 6 8")
}
