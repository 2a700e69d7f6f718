package word_test

import (
	"math"
	"math/big"
	"slices"
	"strconv"
	"strings"
	"testing"
	"unsafe"

	"watchbill/api"
	"watchbill/word"
)

// list is Lines or Split.
type list func(string) ([]string, api.Errno)

func lists() map[string]list {
	return map[string]list{"Lines": word.Lines, "Split": word.Split}
}

// tells holds what Lines or Split answers against what it must.
func tells(t *testing.T, name string, s string, want ...string) {
	t.Helper()
	got, e := lists()[name](s)
	if e != api.OK || !slices.Equal(got, want) {
		t.Errorf("P401: %s(%q): %q, %v, not %q", name, s, got, e, want)
	}
}

func refuses(t *testing.T, name string, s string) {
	t.Helper()
	if got, e := lists()[name](s); e != api.ErrForm || len(got) != 0 {
		t.Errorf("P401, P4: %s(%q): %q, %v, not nothing and ErrForm", name, s, got, e)
	}
}

func numbers(t *testing.T, s string, n int64) {
	t.Helper()
	if got, e := word.Number(s); got != n || e != api.OK {
		t.Errorf("P401: Number(%q): %d, %v, not %d", s, got, e, n)
	}
	if got := word.Text(n); got != s {
		t.Errorf("P401: Text(%d): %q, not %q", n, got, s)
	}
}

func noNumber(t *testing.T, s string, want api.Errno) {
	t.Helper()
	if got, e := word.Number(s); got != 0 || e != want {
		t.Errorf("P401, P4: Number(%q): %d, %v, not 0, %v", s, got, e, want)
	}
}

func names(t *testing.T, s string, want bool) {
	t.Helper()
	if got := word.Name(s); got != want {
		t.Errorf("P401: Name(%q): %v", s, got)
	}
}

func TestLines(t *testing.T) {
	tells(t, "Lines", "")
	tells(t, "Lines", "\n", "")
	tells(t, "Lines", "\n\n\n", "", "", "")
	tells(t, "Lines", "a\n", "a")
	tells(t, "Lines", "locks 1\nchan 2 -\ntask a 5 4 3\n", "locks 1", "chan 2 -", "task a 5 4 3")
	tells(t, "Lines", "\na\n", "", "a")
	tells(t, "Lines", "a\n\n", "a", "")
	tells(t, "Lines", "a\n\n\nb\n", "a", "", "", "b")
	tells(t, "Lines", " \n  a \n", " ", "  a ")
}

func TestLinesTakeEachByte(t *testing.T) {
	for b := range 256 {
		one := string([]byte{byte(b)})
		if b == 0x0A {
			continue
		}
		tells(t, "Lines", one+"\n", one)
		tells(t, "Lines", "x"+one+"y\n"+one+one+"\n", "x"+one+"y", one+one)
	}
	tells(t, "Lines", "a\r\nb\r\n", "a\r", "b\r")
	tells(t, "Lines", "\u2028\u0085\x0b\x0c\n", "\u2028\u0085\x0b\x0c")
	tells(t, "Lines", "\xff\xc3\n\x00\n", "\xff\xc3", "\x00")
}

func TestLinesEndInTheirByte(t *testing.T) {
	for b := range 256 {
		if b == 0x0A {
			continue
		}
		last := string([]byte{byte(b)})
		refuses(t, "Lines", last)
		refuses(t, "Lines", "a"+last)
		refuses(t, "Lines", "\n"+last)
		refuses(t, "Lines", "a\nb\n\n"+last)
	}
	refuses(t, "Lines", "a\nb")
	refuses(t, "Lines", "a\n\r")
}

func TestLinesJoinedAreTheText(t *testing.T) {
	// All texts of up to 7 of these bytes.
	for n := range 8 {
		for _, s := range texts("a\n ", n) {
			got, e := word.Lines(s)
			if s != "" && s[len(s)-1] != '\n' {
				refuses(t, "Lines", s)
				continue
			}
			if e != api.OK || len(got) != strings.Count(s, "\n") {
				t.Errorf("P401: Lines(%q): %q, %v", s, got, e)
			}
			back := ""
			for _, l := range got {
				back += l + "\n"
			}
			if back != s {
				t.Errorf("P401: Lines(%q), joined: %q", s, back)
			}
		}
	}
}

func TestSplit(t *testing.T) {
	tells(t, "Split", "")
	tells(t, "Split", "a", "a")
	tells(t, "Split", "a b", "a", "b")
	tells(t, "Split", "send 3 -17 -", "send", "3", "-17", "-")
	tells(t, "Split", "select 5 send 1 2 recv 3", "select", "5", "send", "1", "2", "recv", "3")
	tells(t, "Split", "a a a a", "a", "a", "a", "a")
	tells(t, "Split", "!~ ~! !", "!~", "~!", "!")
	tells(t, "Split", "\"quoted words\" 'A,B'", "\"quoted", "words\"", "'A,B'")
}

func TestSplitTakesNoEmptyWord(t *testing.T) {
	for _, s := range []string{" ", "  ", "   ", " a", "a ", "a  b", " a b", "a b ", "a b  c", "a   b", " a ", "  a", "a  "} {
		refuses(t, "Split", s)
	}
}

func TestSplitTakesBytes21To7E(t *testing.T) {
	for b := range 256 {
		one := string([]byte{byte(b)})
		if b == 0x20 {
			continue
		}
		if b >= 0x21 && b <= 0x7E {
			tells(t, "Split", one, one)
			tells(t, "Split", one+" x"+one+"y "+one, one, "x"+one+"y", one)
			continue
		}
		for _, s := range []string{one, one + "a", "a" + one, "a" + one + "b", one + " a", "a " + one, "a b" + one + " c", "a " + one + " b"} {
			refuses(t, "Split", s)
		}
	}
	for _, s := range []string{"\u00e9", "a \u00e9", "a\u00a0b", "a\u3000b", "\u2003", "a\u200bb", "a\r", "a\n", "\n", "a\x00"} {
		refuses(t, "Split", s)
	}
}

func TestSplitJoinedIsTheLine(t *testing.T) {
	for n := range 8 {
		for _, s := range texts("a \t", n) {
			bad := strings.Contains(s, "\t") || strings.Contains(s, "  ") || strings.HasPrefix(s, " ") || strings.HasSuffix(s, " ")
			if bad {
				refuses(t, "Split", s)
				continue
			}
			got, e := word.Split(s)
			if e != api.OK || strings.Join(got, " ") != s || s != "" && len(got) != strings.Count(s, " ")+1 || s == "" && len(got) != 0 {
				t.Errorf("P401: Split(%q): %q, %v", s, got, e)
			}
		}
	}
}

// texts is all texts of n of these bytes.
func texts(bytes string, n int) []string {
	all := []string{""}
	for range n {
		var longer []string
		for _, s := range all {
			for i := range len(bytes) {
				longer = append(longer, s+bytes[i:i+1])
			}
		}
		all = longer
	}
	return all
}

func TestLongTexts(t *testing.T) {
	const n = 200000
	lines, e := word.Lines(strings.Repeat("ab\n", n))
	if e != api.OK || len(lines) != n || lines[0] != "ab" || lines[n-1] != "ab" {
		t.Errorf("P401: Lines of %d: %d, %v", n, len(lines), e)
	}
	words, e := word.Split("a" + strings.Repeat(" bc", n))
	if e != api.OK || len(words) != n+1 || words[0] != "a" || words[n] != "bc" {
		t.Errorf("P401: Split of %d: %d, %v", n+1, len(words), e)
	}
	long := strings.Repeat("x", n)
	tells(t, "Lines", long+"\n", long)
	tells(t, "Split", long, long)
	refuses(t, "Split", strings.Repeat("bc ", n))
}

func TestNumberOfText(t *testing.T) {
	for s, n := range map[string]int64{
		"0": 0, "1": 1, "-1": -1, "7": 7, "9": 9, "-9": -9, "10": 10, "-10": -10, "42": 42, "100": 100, "-100": -100,
		"2147483647": math.MaxInt32, "2147483648": 1 << 31, "-2147483649": math.MinInt32 - 1, "4294967296": 1 << 32,
		"1099511627776": api.MaxTick, "9007199254740993": 1<<53 + 1,
		"1000000000000000000": 1e18, "-1000000000000000000": -1e18, "999999999999999999": 1e18 - 1,
		"9223372036854775807": math.MaxInt64, "9223372036854775806": math.MaxInt64 - 1,
		"-9223372036854775808": math.MinInt64, "-9223372036854775807": math.MinInt64 + 1,
	} {
		numbers(t, s, n)
	}
	for n := int64(-2000); n <= 2000; n++ {
		numbers(t, strconv.FormatInt(n, 10), n)
	}
	for bit := range 63 {
		for _, n := range []int64{1 << bit, 1<<bit - 1, 1<<bit + 1, -1 << bit, -1<<bit - 1, -1<<bit + 1} {
			numbers(t, big.NewInt(n).String(), n)
		}
	}
}

func TestNumberBeyond64Bits(t *testing.T) {
	for _, s := range []string{
		"9223372036854775808", "9223372036854775809", "9223372036854775810", "9300000000000000000", "9999999999999999999",
		"-9223372036854775809", "-9223372036854775810", "-9999999999999999999",
		"10000000000000000000", "-10000000000000000000",
		"18446744073709551615", "18446744073709551616", "18446744073709551617", "-18446744073709551615", "-18446744073709551616", "-18446744073709551617",
		"36893488147419103233", "99999999999999999999", "340282366920938463463374607431768211457",
		"1" + strings.Repeat("0", 5000), "-1" + strings.Repeat("0", 5000), strings.Repeat("9", 5000), "-" + strings.Repeat("9", 5000),
	} {
		noNumber(t, s, api.ErrNum)
	}
	// Those about the greatest and the least number, and about its multiples.
	one := big.NewInt(1)
	for times := int64(1); times <= 40; times++ {
		around := new(big.Int).Mul(new(big.Int).Lsh(one, 63), big.NewInt(times))
		for off := int64(-12); off <= 12; off++ {
			n := new(big.Int).Add(around, big.NewInt(off))
			for _, m := range []*big.Int{n, new(big.Int).Neg(n)} {
				if m.IsInt64() {
					numbers(t, m.String(), m.Int64())
				} else {
					noNumber(t, m.String(), api.ErrNum)
				}
			}
		}
	}
}

func TestNumberJustSoWritten(t *testing.T) {
	for _, s := range []string{
		"", "-", "+", "--", "-0", "+0", "00", "000", "-00", "01", "-01", "007", "0x1", "0b1", "0o7", "1_0", "1_000",
		"+1", "--1", "-+1", "+-1", "1-", "1-1", "1+", " ", " 1", "1 ", "- 1", "1 2", "1\n", "\n1", "\t1", "1\x00",
		"x", "1x", "x1", "1x1", "1.0", "1.", ".1", "1e3", "1,000", "a", "ff", "Inf", "NaN", "nil",
		"\u0661", "\uff11", "\u22121", "\u00b2", "\xff", "\u00e9", "1\xff",
	} {
		noNumber(t, s, api.ErrForm)
	}
	for b := range 256 {
		if b >= '0' && b <= '9' {
			continue
		}
		one := string([]byte{byte(b)})
		noNumber(t, one, api.ErrForm)
		noNumber(t, "1"+one, api.ErrForm)
		noNumber(t, "1"+one+"1", api.ErrForm)
		noNumber(t, "-1"+one, api.ErrForm)
		noNumber(t, "-"+one+"1", api.ErrForm)
		if b != '-' {
			noNumber(t, one+"1", api.ErrForm)
		}
	}
}

func TestFormAheadOfSize(t *testing.T) {
	beyond := "9223372036854775808"
	many := strings.Repeat("9", 300)
	for _, s := range []string{beyond, many} {
		for _, bad := range []string{"0" + s, "-0" + s, "00" + s, "+" + s, "--" + s, " " + s, s + " ", s + "x", s + "-", s + ".0", s + "\n", "x" + s, s + "\x00" + s} {
			noNumber(t, bad, api.ErrForm)
		}
	}
	// Noughts ahead are no size: with them a number within 64 bits is refused, too.
	noNumber(t, "0"+"9223372036854775807", api.ErrForm)
	noNumber(t, strings.Repeat("0", 300), api.ErrForm)
	noNumber(t, strings.Repeat("0", 300)+"1", api.ErrForm)
}

func TestNumberOfAllShortTexts(t *testing.T) {
	for n := range 6 {
		for _, s := range texts("-+019 ", n) {
			// What is taken is what its number's text is.
			want, err := strconv.ParseInt(s, 10, 64)
			if err == nil && strconv.FormatInt(want, 10) == s {
				numbers(t, s, want)
			} else {
				noNumber(t, s, api.ErrForm)
			}
		}
	}
}

func TestName(t *testing.T) {
	letters := "abcdefghijklmnopqrstuvwxyz"
	for n := range len(letters) + 1 {
		names(t, letters[:n], n >= 1 && n <= 8)
		names(t, letters[26-n:], n >= 1 && n <= 8)
	}
	for b := range 256 {
		one := string([]byte{byte(b)})
		letter := b >= 'a' && b <= 'z'
		names(t, one, letter)
		for i := range 8 {
			names(t, letters[:i]+one+letters[i:7], letter)
		}
		names(t, letters[:8]+one, false)
	}
	for _, s := range []string{"A", "Z", "aB", "Ab", "`", "{", "a`", "z{", "a1", "1a", "a b", " a", "a ", "a\n", "a-", "a_b", "\u00e9", "a\u00e9", "\u017f", "\uff41", "\u212a", "\u00e9\u00e9\u00e9\u00e9"} {
		names(t, s, false)
	}
	for _, s := range []string{"a", "z", "az", "aaaaaaaa", "zzzzzzzz", "task", "locks"} {
		names(t, s, true)
	}
	names(t, strings.Repeat("a", 1<<16), false)
	names(t, strings.Repeat("a", 1<<8+1), false)
}

// within tells whether part lies in the memory of whole.
func within(part, whole string) bool {
	at := uintptr(unsafe.Pointer(unsafe.StringData(part)))
	from := uintptr(unsafe.Pointer(unsafe.StringData(whole)))
	return part != "" && at >= from && at < from+uintptr(len(whole))
}

func TestAnswersAreNewMemory(t *testing.T) {
	inputs := map[string]string{"Lines": "one two\nthree\n\nfour\nfive\n", "Split": "one two three four five"}
	wants := map[string][]string{"Lines": {"one two", "three", "", "four", "five"}, "Split": {"one", "two", "three", "four", "five"}}
	for name, f := range lists() {
		// Made at run time, so that it is no constant of the program.
		in := string([]byte(inputs[name]))
		got, _ := f(in)
		other, _ := f(in)
		for i, s := range got {
			if within(s, in) {
				t.Errorf("P2: %s: %q is a piece of what was handed in", name, s)
			}
			if within(s, other[i]) {
				t.Errorf("P2: %s: %q is shared by two answers", name, s)
			}
		}
		whole := got[:cap(got)]
		for i := range whole {
			whole[i] = "x"
		}
		_ = append(got[:1], "y")
		if in != inputs[name] || !slices.Equal(other, wants[name]) {
			t.Errorf("P2: %s: behind a change of an answer: %q of %q", name, other, in)
		}
		tells(t, name, in, wants[name]...)
	}
}

func TestOneTextAloneIsNewMemory(t *testing.T) {
	line := string([]byte("alone"))
	words, _ := word.Split(line)
	if len(words) != 1 || within(words[0], line) {
		t.Errorf("P2: Split of one word: %q", words)
	}
	text := string([]byte("alone\n"))
	lines, _ := word.Lines(text)
	if len(lines) != 1 || within(lines[0], text) {
		t.Errorf("P2: Lines of one line: %q", lines)
	}
}

func TestTheSameCallsAnswerTheSame(t *testing.T) {
	for range 3 {
		tells(t, "Lines", "a\nb\n", "a", "b")
		refuses(t, "Lines", "a\nb")
		tells(t, "Lines", "a\nb\n", "a", "b")
		tells(t, "Split", "a b", "a", "b")
		refuses(t, "Split", "a  b")
		tells(t, "Split", "a b", "a", "b")
		numbers(t, "-12", -12)
		noNumber(t, "-012", api.ErrForm)
		noNumber(t, "99999999999999999999", api.ErrNum)
		numbers(t, "-12", -12)
	}
}
