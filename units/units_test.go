package units

import (
	"math"
	"math/big"
	"slices"
	"testing"

	"fusee/api"
)

// unit and load are told by their numbers, so that a test fails if either is taken for another.
const (
	unit  = 1048576
	load  = 983040
	great = 1 << 40
)

// of is a description of six numbers: C, T, Max, M, K and E.
func of(c, t, high, m, k, e int) api.Spec {
	return api.Spec{C: c, T: t, Max: high, M: m, K: k, E: e}
}

// refMay says by the document's words whether a description may be, without spec.
func refMay(s api.Spec) bool {
	return s.C >= 1 && s.C <= 6 && s.C <= s.T && s.T <= s.Max && s.Max <= 48 &&
		s.M >= 1 && s.M <= s.K && s.K <= 6 && s.E >= 0 && s.E <= 8 && (s.E != 0 || s.T == s.Max)
}

// refAt says by the chapter's words how many units there are: the least number that times K times p is no less.
func refAt(s api.Spec, p int) int {
	if !refMay(s) || p < s.T || p > s.Max {
		return 0
	}
	whole, by := s.C*s.M*unit, s.K*p
	n := whole / by
	for n*by < whole {
		n++
	}
	return n
}

// refSum says by the chapter's words what a list comes to, in numbers of any length.
func refSum(l []int) (int, bool) {
	sum := new(big.Int)
	for _, n := range l {
		if n < 0 || n > great {
			return 0, false
		}
		sum.Add(sum, big.NewInt(int64(n)))
	}
	if len(l) > 1000 {
		return 0, false
	}
	return int(sum.Int64()), sum.IsInt64()
}

// bad may none of them be, each by one number or two.
var bad = []api.Spec{
	{},
	of(0, 10, 20, 1, 2, 3), of(7, 10, 20, 1, 2, 3), of(-1, 10, 20, 1, 2, 3), of(math.MaxInt, 10, 20, 1, 2, 3), of(math.MinInt, 10, 20, 1, 2, 3),
	of(3, 2, 20, 1, 2, 3), of(2, 21, 20, 1, 2, 3), of(2, 0, 20, 1, 2, 3), of(2, -10, 20, 1, 2, 3), of(2, math.MinInt, 20, 1, 2, 3),
	of(2, 10, 9, 1, 2, 3), of(2, 10, 49, 1, 2, 3), of(2, 49, 49, 1, 2, 3), of(2, 10, math.MaxInt, 1, 2, 3), of(2, 0, 0, 1, 2, 3), of(2, -1, -1, 1, 2, 3), of(2, math.MinInt, math.MaxInt, 1, 2, 3),
	of(2, 10, 20, 0, 2, 3), of(2, 10, 20, 3, 2, 3), of(2, 10, 20, -1, 2, 3), of(2, 10, 20, 1, 0, 3), of(2, 10, 20, 0, 0, 3), of(2, 10, 20, 1, 7, 3), of(2, 10, 20, 7, 7, 3), of(2, 10, 20, 1, -2, 3), of(2, 10, 20, math.MaxInt, 2, 3), of(2, 10, 20, 1, math.MinInt, 3),
	of(2, 10, 20, 1, 2, -1), of(2, 10, 20, 1, 2, 9), of(2, 10, 20, 1, 2, 0), of(2, 20, 20, 1, 2, -1), of(2, 20, 20, 1, 2, 9), of(2, 10, 20, 1, 2, math.MaxInt),
}

// far are periods at which no task is.
var far = []int{
	0, -1, -2, -10, -48, 49, 50, 256 + 10, 1 << 20, 1<<32 + 10, -1<<32 + 10, 1 << 40, 1 << 62, 1<<62 + 10, -1 << 62,
	math.MaxInt, math.MaxInt - 1, math.MinInt, math.MinInt + 1, math.MinInt + 10,
}

// each hands on every description that may be.
func each(f func(s api.Spec)) {
	for c := 1; c <= 6; c++ {
		for t := c; t <= 48; t++ {
			for high := t; high <= 48; high++ {
				for k := 1; k <= 6; k++ {
					for m := 1; m <= k; m++ {
						for e := range 9 {
							if s := of(c, t, high, m, k, e); refMay(s) {
								f(s)
							}
						}
					}
				}
			}
		}
	}
}

// times is a list of a number, n times.
func times(n, x int) []int {
	return slices.Repeat([]int{x}, n)
}

// roomy is a copy of a list with room behind it, filled with a mark: a call that appends to what it was handed writes there.
func roomy(l []int) []int {
	return slices.Concat(l, times(4, -77))[: len(l) : len(l)+4]
}

// check fails if Sum and Fits of a list are not as told, or if either changes it.
func check(t *testing.T, l []int, sum int, ok, fits bool) {
	t.Helper()
	in := roomy(l)
	if n, is := Sum(in); n != sum || is != ok {
		t.Errorf("Sum of %d numbers: %d %v, not %d %v", len(l), n, is, sum, ok)
	}
	if !slices.Equal(in[:cap(in)], roomy(l)[:cap(in)]) {
		t.Errorf("Sum changed %d numbers", len(l))
	}
	if Fits(in) != fits {
		t.Errorf("Fits of %d numbers that come to %d: not %v", len(l), sum, fits)
	}
	if !slices.Equal(in[:cap(in)], roomy(l)[:cap(in)]) {
		t.Errorf("Fits changed %d numbers", len(l))
	}
}

// none fails if there is a Sum of a list, or it fits.
func none(t *testing.T, l []int) {
	t.Helper()
	check(t, l, 0, false, false)
}

// P6.1: the chapter's example, told in full.
func TestExample(t *testing.T) {
	if n := At(of(2, 10, 20, 1, 2, 3), 10); n != 104858 {
		t.Errorf("%d", n)
	}
}

// P6.1: units at ordinary periods and at the edges, each told in full.
func TestAtAsWritten(t *testing.T) {
	for _, c := range []struct {
		s    api.Spec
		p, n int
	}{
		// T and Max, between, and one beside them
		{of(2, 10, 20, 1, 2, 3), 10, 104858}, {of(2, 10, 20, 1, 2, 3), 20, 52429}, {of(2, 10, 20, 1, 2, 3), 15, 69906}, {of(2, 10, 20, 1, 2, 3), 9, 0}, {of(2, 10, 20, 1, 2, 3), 21, 0},
		// nothing is left: 2^20 by 16, by 2 and by 1
		{of(2, 10, 20, 1, 2, 3), 16, 65536}, {of(1, 2, 48, 1, 1, 8), 2, 524288}, {of(3, 6, 6, 2, 2, 0), 6, 524288}, {of(3, 12, 48, 2, 4, 1), 48, 32768}, {of(6, 6, 12, 1, 2, 1), 12, 262144},
		// something is left: one third, two thirds, and the least of all
		{of(1, 3, 3, 1, 1, 0), 3, 349526}, {of(2, 3, 3, 1, 1, 0), 3, 699051}, {of(1, 48, 48, 1, 6, 0), 48, 3641}, {of(1, 1, 48, 1, 6, 8), 48, 3641}, {of(5, 7, 48, 5, 6, 2), 7, 624153},
		// all of the time
		{of(1, 1, 1, 1, 1, 0), 1, unit}, {of(6, 6, 6, 6, 6, 0), 6, unit}, {of(6, 6, 48, 6, 6, 8), 6, unit}, {of(5, 5, 40, 3, 3, 1), 5, unit}, {of(6, 6, 48, 6, 6, 8), 48, 131072},
		// one that is not elastic, at its period and beside it
		{of(3, 17, 17, 2, 5, 0), 17, 74018}, {of(3, 17, 17, 2, 5, 0), 16, 0}, {of(3, 17, 17, 2, 5, 0), 18, 0},
		// E has no part in it
		{of(2, 20, 20, 1, 2, 0), 20, 52429}, {of(2, 20, 20, 1, 2, 8), 20, 52429},
	} {
		if n := At(c.s, c.p); n != c.n {
			t.Errorf("At(%v, %d): %d, not %d", c.s, c.p, n, c.n)
		}
	}
}

// P6.1: Top and Least, each told in full.
func TestTopAndLeastAsWritten(t *testing.T) {
	for _, c := range []struct {
		s          api.Spec
		top, least int
	}{
		{of(2, 10, 20, 1, 2, 3), 104858, 52429}, {of(1, 1, 48, 1, 6, 8), 174763, 3641}, {of(6, 6, 48, 6, 6, 8), unit, 131072}, {of(3, 6, 12, 2, 2, 1), 524288, 262144},
		{of(3, 17, 17, 2, 5, 0), 74018, 74018}, {of(3, 3, 3, 2, 2, 0), unit, unit}, {of(1, 48, 48, 1, 6, 0), 3641, 3641}, {of(4, 9, 9, 1, 1, 5), 466034, 466034},
	} {
		if top, least := Top(c.s), Least(c.s); top != c.top || least != c.least {
			t.Errorf("%v: %d and %d, not %d and %d", c.s, top, least, c.top, c.least)
		}
	}
}

// P6.1: every description that may be, at every period near it, held against the chapter's words.
func TestAtByItsMeaning(t *testing.T) {
	each(func(s api.Spec) {
		for p := -1; p <= 50; p++ {
			if n := At(s, p); n != refAt(s, p) {
				t.Fatalf("At(%v, %d): %d, not %d", s, p, n, refAt(s, p))
			}
		}
		low := s.Max
		if s.E == 0 {
			low = s.T
		}
		if Top(s) != refAt(s, s.T) || Least(s) != refAt(s, low) {
			t.Fatalf("%v: %d and %d", s, Top(s), Least(s))
		}
	})
}

// P6.1: periods at which no task is.
func TestPeriodsThatAreNone(t *testing.T) {
	for _, s := range []api.Spec{of(2, 10, 20, 1, 2, 3), of(1, 1, 48, 1, 1, 8), of(6, 6, 48, 6, 6, 1), of(1, 1, 1, 1, 1, 0), of(6, 48, 48, 6, 6, 0)} {
		for _, p := range slices.Concat(far, []int{s.T - 1, s.Max + 1}) {
			if n := At(s, p); n != 0 {
				t.Errorf("At(%v, %d): %d", s, p, n)
			}
		}
	}
}

// P6.1: descriptions that may not be, at any period.
func TestThoseThatMayNotBe(t *testing.T) {
	for _, s := range bad {
		for _, p := range slices.Concat(far, []int{1, 2, 9, 10, 11, 15, 20, 21, 48, s.T, s.Max}) {
			if n := At(s, p); n != 0 {
				t.Errorf("At(%v, %d): %d", s, p, n)
			}
		}
		if Top(s) != 0 || Least(s) != 0 {
			t.Errorf("%v: %d and %d", s, Top(s), Least(s))
		}
	}
}

// P6.2: lists at the edges, each told in full.
func TestSumAndFitsAsWritten(t *testing.T) {
	check(t, nil, 0, true, true)
	check(t, []int{}, 0, true, true)
	if n, ok := Sum(nil); n != 0 || !ok || !Fits(nil) {
		t.Errorf("of nil: %d %v %v", n, ok, Fits(nil))
	}
	for _, c := range []struct {
		l    []int
		sum  int
		fits bool
	}{
		{[]int{0}, 0, true}, {[]int{1}, 1, true}, {[]int{1, 2, 3, 4, 5}, 15, true}, {[]int{104858, 52429, 0}, 157287, true},
		// 983040, and one more, in one number and in many
		{[]int{load}, load, true}, {[]int{load + 1}, load + 1, false}, {[]int{load, 0}, load, true}, {[]int{load, 1}, load + 1, false}, {[]int{1, load}, load + 1, false}, {[]int{load - 1}, load - 1, true}, {[]int{load / 2, load / 2}, load, true}, {[]int{load / 2, load / 2, 1}, load + 1, false},
		{times(960, 1024), load, true}, {append(times(960, 1024), 1), load + 1, false}, {append(times(999, 984), 24), 983040, true}, {append(times(999, 984), 25), 983041, false}, {[]int{unit}, unit, false},
		// 2^40, and one less
		{[]int{great}, great, false}, {[]int{great - 1}, great - 1, false}, {[]int{great, great, 1}, 2*great + 1, false}, {[]int{0, great, 0}, great, false},
		// up to 1000
		{times(999, 0), 0, true}, {times(1000, 0), 0, true}, {times(1000, 1), 1000, true}, {times(1000, great), 1000 * great, false}, {append(times(999, 0), great), great, false}, {append(times(999, 0), load), load, true},
	} {
		check(t, c.l, c.sum, true, c.fits)
	}
}

// P6.2: numbers that may not be, as the first one, the last one, and behind others, however long the list is.
func TestSumOfWrongNumbers(t *testing.T) {
	for _, w := range []int{-1, -2, -great, -1 << 62, math.MinInt, math.MinInt + 1, great + 1, great + 2, 2 * great, 1 << 62, math.MaxInt - 1, math.MaxInt} {
		for _, n := range []int{1, 2, 3, 10, 999, 1000, 1001} {
			for _, x := range []int{0, 1, 1000, great} {
				for _, at := range []int{0, 1, n / 2, n - 2, n - 1} {
					if at < 0 || at >= n {
						continue
					}
					l := times(n, x)
					l[at] = w
					none(t, l)
				}
			}
		}
		// what one lacks another one does not make up for
		none(t, []int{w, -w})
		none(t, []int{-w, w, 5})
		none(t, []int{w, w, w})
	}
	none(t, []int{5, -1})
	none(t, []int{-5, 5})
	none(t, []int{1 << 41, -1 << 41})
}

// P6.2: more than 1000, whatever they are.
func TestSumOfTooMany(t *testing.T) {
	for _, n := range []int{1001, 1002, 1024, 2000, 65536, 65537} {
		none(t, times(n, 0))
		none(t, times(n, 1))
		none(t, times(n, great))
	}
}

// P6.2: numbers that together are more than a word: also such as come to a small number, or to 0, there.
func TestSumBeyondAWord(t *testing.T) {
	none(t, []int{math.MaxInt, 1})
	none(t, []int{math.MaxInt, math.MaxInt, 2})
	none(t, []int{math.MaxInt, math.MaxInt, 7})
	none(t, []int{1 << 62, 1 << 62, 1 << 62, 1 << 62})
	none(t, []int{1 << 62, 1 << 62, 1 << 62, 1 << 62, 100})
	none(t, []int{math.MinInt, math.MinInt})
	none(t, []int{math.MinInt, math.MinInt, 100})
	none(t, []int{math.MinInt, math.MaxInt, 1})
	none(t, []int{100, math.MinInt, -1 << 62, -1 << 62})
	none(t, times(1<<15, 1<<49))
}

// P6.2: lists of all lengths up to 3, of numbers at the edges, held against the chapter's words.
func TestSumByItsMeaning(t *testing.T) {
	near := []int{math.MinInt, -1, 0, 1, 2, load / 2, load - 1, load, load + 1, unit, great - 1, great, great + 1, 1 << 62, math.MaxInt}
	hold := func(l []int) {
		t.Helper()
		sum, ok := refSum(l)
		check(t, l, sum, ok, ok && sum <= load)
	}
	for _, a := range near {
		hold([]int{a})
		for _, b := range near {
			hold([]int{a, b})
			for _, c := range near {
				hold([]int{a, b, c})
			}
		}
	}
	for n := range 1010 {
		hold(times(n, 983))
		hold(times(n, 984))
		hold(times(n, great))
	}
}

// P6.3: a longer period has no more units, and no task has more than 2^20, or none.
func TestALongerPeriodHasNoMore(t *testing.T) {
	each(func(s api.Spec) {
		last := unit
		for p := s.T; p <= s.Max; p++ {
			n := At(s, p)
			if n < 1 || n > last {
				t.Fatalf("At(%v, %d): %d, behind %d", s, p, n, last)
			}
			last = n
		}
		if top, least := Top(s), Least(s); least < 1 || least > top || top > unit {
			t.Fatalf("%v: %d and %d", s, top, least)
		}
	})
}

// P6.3: all of the time is had just by a task whose jobs are as long as the period, and all mandatory.
func TestAllOfTheTime(t *testing.T) {
	each(func(s api.Spec) {
		if all := s.C == s.T && s.M == s.K; (Top(s) == unit) != all {
			t.Fatalf("%v: %d", s, Top(s))
		}
	})
}
