package rta_test

import (
	"math"
	"slices"
	"testing"

	"watchbill/api"
	"watchbill/rta"
)

const (
	greatest = math.MaxInt64
	smallest = math.MinInt64
)

// loads is Loads of their Periods and Costs in turn.
func loads(numbers ...int64) []rta.Load {
	var l []rta.Load
	for i := 0; i < len(numbers); i += 2 {
		l = append(l, rta.Load{Period: numbers[i], Cost: numbers[i+1]})
	}
	return l
}

func nextIs(t *testing.T, r, own int64, l []rta.Load, want int64) {
	t.Helper()
	if got, e := rta.Next(r, own, l); got != want || e != api.OK {
		t.Errorf("P1201: Next(%d, %d, %v): %d, %v, not %d", r, own, l, got, e, want)
	}
}

func nextFails(t *testing.T, r, own int64, l []rta.Load, want api.Errno) {
	t.Helper()
	if got, e := rta.Next(r, own, l); got != 0 || e != want {
		t.Errorf("P1201: Next(%d, %d, %v): %d, %v, not 0, %v", r, own, l, got, e, want)
	}
}

func fixIs(t *testing.T, own int64, l []rta.Load, most, want int64, rounds int) {
	t.Helper()
	if got, asked, e := rta.Fix(own, l, most); got != want || asked != rounds || e != api.OK {
		t.Errorf("P1201: Fix(%d, %v, %d): %d, %d, %v, not %d, %d", own, l, most, got, asked, e, want, rounds)
	}
}

func fixFails(t *testing.T, own int64, l []rta.Load, most int64, want api.Errno) {
	t.Helper()
	if got, asked, e := rta.Fix(own, l, most); got != 0 || asked != 0 || e != want {
		t.Errorf("P1201: Fix(%d, %v, %d): %d, %d, %v, not 0, 0, %v", own, l, most, got, asked, e, want)
	}
}

func TestNextOfNoLoad(t *testing.T) {
	for _, r := range []int64{0, 1, 7, greatest} {
		for _, own := range []int64{0, 1, 7, greatest} {
			nextIs(t, r, own, nil, own)
			nextIs(t, r, own, loads(), own)
			nextIs(t, r, own, []rta.Load{}, own)
		}
	}
}

// TestNextOfOneLoad: r by Period is rounded up.
func TestNextOfOneLoad(t *testing.T) {
	for r, times := range map[int64]int64{0: 0, 1: 1, 2: 1, 9: 1, 10: 1, 11: 2, 19: 2, 20: 2, 21: 3, 99: 10, 100: 10, 101: 11} {
		nextIs(t, r, 0, loads(10, 3), 3*times)
		nextIs(t, r, 7, loads(10, 3), 7+3*times)
		nextIs(t, r, 7, loads(10, 0), 7)
		nextIs(t, r, 7, loads(1, 3), 7+3*r)
		nextIs(t, r, 7, loads(1, 0), 7)
	}
}

func TestNextOfSeveralLoads(t *testing.T) {
	nextIs(t, 0, 4, loads(3, 2, 5, 1, 100, 9), 4)
	nextIs(t, 1, 4, loads(3, 2, 5, 1, 100, 9), 4+2+1+9)
	nextIs(t, 3, 4, loads(3, 2, 5, 1, 100, 9), 4+2+1+9)
	nextIs(t, 4, 4, loads(3, 2, 5, 1, 100, 9), 4+4+1+9)
	nextIs(t, 10, 4, loads(3, 2, 5, 1, 100, 9), 4+8+2+9)
	nextIs(t, 101, 4, loads(3, 2, 5, 1, 100, 9), 4+68+21+18)
	nextIs(t, 101, 4, loads(100, 9, 5, 1, 3, 2), 4+18+21+68)
	nextIs(t, 101, 4, loads(100, 9, 5, 0, 3, 2), 4+18+68)
	nextIs(t, 101, 0, loads(100, 0, 5, 0, 3, 0), 0)
	nextIs(t, 8, 0, loads(4, 1, 4, 1, 4, 1), 6) // alike ones count each
}

func TestNextOfManyLoads(t *testing.T) {
	nextIs(t, 21, 5, slices.Repeat(loads(10, 2), 1000), 5+3*2*1000)
	nextIs(t, greatest, 0, slices.Repeat(loads(greatest, 1), 1000), 1000)
}

func TestNextOfWrongNumbers(t *testing.T) {
	for _, l := range [][]rta.Load{nil, loads(3, 2), loads(3, 2, 1, greatest, 5, 1)} {
		for _, wrong := range []int64{-1, -2, smallest} {
			nextFails(t, wrong, 4, l, api.ErrArg)
			nextFails(t, 4, wrong, l, api.ErrArg)
			nextFails(t, wrong, wrong, l, api.ErrArg)
			nextFails(t, wrong, 0, l, api.ErrArg)
			nextFails(t, 0, wrong, l, api.ErrArg)
			nextFails(t, wrong, greatest, l, api.ErrArg)
			nextFails(t, greatest, wrong, l, api.ErrArg)
		}
		nextIs(t, 0, 0, l, 0)
	}
}

// wrongLoads has a wrong Load at each place of those rows, one in each.
func wrongLoads() [][]rta.Load {
	var all [][]rta.Load
	for _, row := range [][]rta.Load{loads(3, 2), loads(3, 2, 5, 1), loads(3, 2, 5, 1, 100, 9), loads(1, greatest, 1, greatest, 1, greatest)} {
		for at := range row {
			for _, one := range loads(0, 2, -1, 2, smallest, 2, 3, -1, 3, smallest, 0, -1, 0, 0, -1, 0) {
				l := slices.Clone(row)
				l[at] = one
				all = append(all, l)
			}
		}
	}
	return all
}

// TestNextOfWrongLoads: ErrArg is told ahead of ErrNum, wherever that is.
func TestNextOfWrongLoads(t *testing.T) {
	for _, l := range wrongLoads() {
		for _, r := range []int64{0, 1, 4, greatest, -1} {
			for _, own := range []int64{0, 1, 4, greatest, -1} {
				nextFails(t, r, own, l, api.ErrArg)
			}
		}
	}
}

// TestNextOfTheLeastLoad: a Period of 1, a Cost of 0 may be.
func TestNextOfTheLeastLoad(t *testing.T) {
	nextIs(t, 6, 5, loads(1, 0), 5)
	nextIs(t, greatest, greatest, loads(1, 0, 2, 0, greatest, 0), greatest)
	nextIs(t, greatest, greatest-1, loads(1, 0, greatest, 1, 1, 0), greatest)
}

// TestNextOfTheGreatestR: no round of r by Period goes beyond 64 bits.
func TestNextOfTheGreatestR(t *testing.T) {
	nextIs(t, greatest, 0, loads(1, 1), greatest)
	nextFails(t, greatest, 1, loads(1, 1), api.ErrNum)
	nextFails(t, greatest, 0, loads(1, 2), api.ErrNum)
	nextIs(t, greatest-1, 1, loads(1, 1), greatest)
	nextIs(t, greatest, 4, loads(greatest, 3), 7)
	nextIs(t, greatest-1, 4, loads(greatest, 3), 7)
	nextIs(t, greatest, 4, loads(greatest-1, 3), 10)
	nextIs(t, 1, 4, loads(greatest, 3), 7)
	nextIs(t, 0, 4, loads(greatest, 3), 4)
	nextIs(t, greatest, 0, loads(2, 1), 1<<62)
	nextFails(t, greatest, 0, loads(2, 2), api.ErrNum)
	nextIs(t, greatest-1, 0, loads(2, 2), greatest-1)
	nextIs(t, greatest, 0, loads(greatest, greatest), greatest)
	nextFails(t, greatest, 1, loads(greatest, greatest), api.ErrNum)
	nextFails(t, greatest, 0, loads(greatest-1, greatest), api.ErrNum)
	nextFails(t, greatest, 0, loads(1, greatest), api.ErrNum)
}

// TestNextOfASumAtTheBound: at each Load the sum is just 2^63 - 1, then one more;
// those ahead of it have a part of it, those behind it none.
func TestNextOfASumAtTheBound(t *testing.T) {
	for count := 1; count <= 6; count++ {
		for at := range count {
			for _, own := range []int64{0, 1, 1000, 1 << 62} {
				l := slices.Repeat(loads(10, 0), count)
				for i := range at {
					l[i].Cost = 5
				}
				l[at].Cost = (greatest - own) - 5*int64(at)
				nextIs(t, 10, own, l, greatest)
				nextIs(t, 0, own, l, own)
				l[at].Cost++
				if l[at].Cost > 0 {
					nextFails(t, 10, own, l, api.ErrNum)
					nextIs(t, 0, own, l, own)
				}
				l[at].Cost--
				nextFails(t, 10, own+1, l, api.ErrNum)
			}
		}
	}
}

// TestNextOfAProductAtTheBound: 2^63 - 1 is 7 times 1317624576693539401; in 64
// bits those beyond it would seem small, or below 0.
func TestNextOfAProductAtTheBound(t *testing.T) {
	const seventh = 1317624576693539401
	for count := 1; count <= 6; count++ {
		for at := range count {
			l := slices.Repeat(loads(9, 0), count)
			l[at] = rta.Load{Period: 1, Cost: seventh}
			nextIs(t, 7, 0, l, greatest)
			nextFails(t, 8, 0, l, api.ErrNum)
			nextFails(t, 7, 1, l, api.ErrNum)
			l[at] = rta.Load{Period: seventh, Cost: 7}
			nextIs(t, greatest, 0, l, 49)
			l[at] = rta.Load{Period: 7, Cost: 7}
			nextIs(t, greatest, 0, l, greatest)
			for _, one := range []struct{ times, cost int64 }{{2, 1 << 62}, {8, 1 << 60}, {1 << 31, 1 << 32}, {1 << 32, 1 << 32}, {1 << 33, 1 << 31}, {4, 1<<62 + 1}, {3, 6148914691236517206}, {1 << 62, 4}, {greatest, greatest}, {greatest, 2}, {2, greatest}} {
				l[at] = rta.Load{Period: 3, Cost: one.cost}
				if one.times <= greatest/3 {
					nextFails(t, one.times*3, 0, l, api.ErrNum)
					nextFails(t, one.times*3-2, 0, l, api.ErrNum)
				}
				l[at].Period = 1
				nextFails(t, one.times, 0, l, api.ErrNum)
			}
		}
	}
}

func TestFixOfNoLoad(t *testing.T) {
	for _, own := range []int64{0, 1, 5, greatest} {
		fixIs(t, own, nil, own, own, 1)
		fixIs(t, own, []rta.Load{}, greatest, own, 1)
		if own > 0 {
			fixFails(t, own, nil, own-1, api.ErrLate)
			fixFails(t, own, nil, 0, api.ErrLate)
		}
	}
}

// TestFixBehindNoRound: own is there already.
func TestFixBehindNoRound(t *testing.T) {
	fixIs(t, 0, loads(5, 3), 0, 0, 1)
	fixIs(t, 0, loads(5, 3, 1, greatest), greatest, 0, 1)
	fixIs(t, 8, loads(5, 0), 8, 8, 1)
	fixIs(t, 8, loads(5, 0, 1, 0), 9, 8, 1)
	fixFails(t, 8, loads(5, 0, 1, 0), 7, api.ErrLate)
}

// TestFixBehindSeveralRounds: r goes from own to the answer, each one the Next of
// that ahead of it; most is just the answer, more, one less.
func TestFixBehindSeveralRounds(t *testing.T) {
	for _, c := range []struct {
		l  []rta.Load
		rs []int64
	}{
		{loads(2, 1), []int64{1, 2}},
		{loads(4, 1), []int64{3, 4}},
		{loads(100, 5, 100, 9), []int64{3, 17}},
		{loads(4, 1), []int64{4, 5, 6}},
		{loads(4, 1, 6, 2), []int64{2, 5, 6}},
		{loads(6, 2, 4, 1), []int64{2, 5, 6}},
		{loads(2, 1), []int64{5, 8, 9, 10}},
		{loads(4, 2, 10, 3), []int64{5, 12, 17, 21, 26, 28}},
		{loads(7, 2, 12, 3), []int64{20, 32, 39, 44, 46}},
	} {
		own, want := c.rs[0], c.rs[len(c.rs)-1]
		fixIs(t, own, c.l, want, want, len(c.rs))
		fixIs(t, own, c.l, want+1, want, len(c.rs))
		fixIs(t, own, c.l, greatest, want, len(c.rs))
		for _, r := range c.rs {
			fixFails(t, own, c.l, r-1, api.ErrLate)
		}
		fixFails(t, own, c.l, 0, api.ErrLate)
	}
}

// TestFixGoesNoFurtherThanItMust: there are greater ones that are Next of
// themselves, too.
func TestFixGoesNoFurtherThanItMust(t *testing.T) {
	nextIs(t, 20, 2, loads(10, 9), 20)
	nextIs(t, 11, 2, loads(10, 9), 20)
	nextIs(t, 40, 4, loads(10, 9), 40)
	fixIs(t, 1, loads(10, 9), 99, 10, 2)
	fixIs(t, 2, loads(10, 9), 99, 20, 3)
	fixIs(t, 0, loads(10, 10), 99, 0, 1)
	nextIs(t, 10, 0, loads(10, 10), 10)
	nextIs(t, 90, 0, loads(10, 10), 90)
}

func TestFixOfWrongNumbers(t *testing.T) {
	for _, l := range [][]rta.Load{nil, loads(3, 2), loads(1, greatest, 1, greatest)} {
		for _, wrong := range []int64{-1, -2, smallest} {
			for _, other := range []int64{0, 1, 5, greatest, -1, smallest} {
				fixFails(t, wrong, l, other, api.ErrArg)
				fixFails(t, other, l, wrong, api.ErrArg)
			}
		}
		fixIs(t, 0, l, 0, 0, 1)
	}
}

// TestFixOfWrongLoads: ErrArg is told ahead of ErrLate and ErrNum.
func TestFixOfWrongLoads(t *testing.T) {
	for _, l := range wrongLoads() {
		for _, own := range []int64{0, 1, 4, greatest, -1} {
			for _, most := range []int64{0, 1, 4, greatest, -1} {
				fixFails(t, own, l, most, api.ErrArg)
			}
		}
	}
}

// TestFixOfWhatIsTooGreat: from 1 on r is 1 + 2^20, 1 + 2^20 + 2^40, and so on;
// the fourth Next is beyond 64 bits.
func TestFixOfWhatIsTooGreat(t *testing.T) {
	const one, two = 1 + 1<<20, 1 + 1<<20 + 1<<40
	const three = two + 1<<60
	l := loads(1, 1<<20)
	nextIs(t, two, 1, l, three)
	nextFails(t, three, 1, l, api.ErrNum)
	fixFails(t, 1, l, greatest, api.ErrNum)
	fixFails(t, 1, l, three, api.ErrNum)
	for _, most := range []int64{three - 1, two, two - 1, one, one - 1, 1, 0} {
		fixFails(t, 1, l, most, api.ErrLate)
	}
	fixFails(t, three, l, three, api.ErrNum)
	fixFails(t, three, l, three-1, api.ErrLate)
	fixFails(t, greatest, loads(1, 1), greatest, api.ErrNum)
	fixFails(t, greatest, loads(1, 1), greatest-1, api.ErrLate)
	fixFails(t, 1, loads(greatest, greatest), greatest, api.ErrNum)
	fixIs(t, 1, loads(greatest, greatest-1), greatest, greatest, 2)
	fixFails(t, 1, loads(greatest, greatest-1), greatest-1, api.ErrLate)
}

// slow is a Load by which own, where it is no greater than period, is there
// behind as many rounds: r goes up by period less 1, to own times period.
func slow(period int64) []rta.Load { return loads(period, period-1) }

func TestFixOfMaxRounds(t *testing.T) {
	for own := int64(0); own < api.MaxRounds; own++ {
		fixIs(t, own, slow(1000), own*1000, own*1000, int(own)+1)
	}
	for _, period := range []int64{1000, 1001, 1 << 40, 1 << 50} {
		fixIs(t, 998, slow(period), greatest, 998*period, 999)
		fixIs(t, 999, slow(period), greatest, 999*period, 1000)
		fixFails(t, 1000, slow(period), greatest, api.ErrCap)
	}
	fixFails(t, 1001, slow(1001), greatest, api.ErrCap)
	fixFails(t, 1500, slow(2000), greatest, api.ErrCap)
	fixFails(t, 1, loads(1, 1), greatest, api.ErrCap)
}

// TestFixOfMaxRoundsOrLate: behind the last round, too, r is held against most
// ahead of ErrCap.
func TestFixOfMaxRoundsOrLate(t *testing.T) {
	const r = 1000 + 1000*1000 // behind 1000 rounds
	fixFails(t, 1000, slow(1001), r, api.ErrCap)
	fixFails(t, 1000, slow(1001), r-1, api.ErrLate)
	fixFails(t, 1000, slow(1001), r-1000, api.ErrLate)
	fixFails(t, 1, loads(1, 1), 1001, api.ErrCap)
	for _, most := range []int64{1000, 999, 998, 1, 0} {
		fixFails(t, 1, loads(1, 1), most, api.ErrLate)
	}
}

// TestFixOfMaxRoundsOrTooGreat: the last Next that may be asked is just 2^63 - 1
// at most, then beyond it.
func TestFixOfMaxRoundsOrTooGreat(t *testing.T) {
	const up = (greatest - 1000) / 1000
	fixFails(t, 1000, slow(up+1), greatest, api.ErrCap)
	fixFails(t, 1000, slow(up+2), greatest, api.ErrNum)
	fixFails(t, 1000, slow(up+2), greatest-1000, api.ErrNum)
	fixFails(t, 1000, slow(up+2), 1000+999*(up+1), api.ErrNum)
	fixFails(t, 1000, slow(up+2), 1000+999*(up+1)-1, api.ErrLate)
}
