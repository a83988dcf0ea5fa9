package period

import (
	"math"
	"slices"
	"testing"

	"fusee/api"
	"fusee/units"
)

// unit, clock and ahead are told by their numbers, so that a test fails if one of them is taken for another.
const (
	unit  = 1048576
	clock = 1 << 40
	ahead = 5000
)

// of is a description of six numbers: C, T, Max, M, K and E.
func of(c, t, high, m, k, e int) api.Spec {
	return api.Spec{C: c, T: t, Max: high, M: m, K: k, E: e}
}

// refMay says by the document's words whether a description may be, without spec.
func refMay(s api.Spec) bool {
	return s.C >= 1 && s.C <= 6 && s.C <= s.T && s.T <= s.Max && s.Max <= 48 &&
		s.M >= 1 && s.M <= s.K && s.K <= 6 && s.E >= 0 && s.E <= 8 && (s.E != 0 || s.T == s.Max)
}

// refOf says by the chapter's words which period is the least of u units, without units.
func refOf(s api.Spec, u int) (int, bool) {
	if !refMay(s) || u < 1 || u > unit {
		return 0, false
	}
	for p := s.T; p <= s.Max; p++ {
		if s.C*s.M*unit <= u*s.K*p {
			return p, true
		}
	}
	return 0, false
}

// refAll says by the chapter's words which periods a task may have.
func refAll(s api.Spec) []int {
	var l []int
	for p := range 49 {
		if refMay(s) && p >= s.T && p <= s.Max {
			l = append(l, p)
		}
	}
	return l
}

// refEnds says by the chapter's words when jobs end: each time is asked whether it is one.
func refEnds(s api.Spec, p, from, upto int) []int {
	if !refMay(s) || p < s.T || p > s.Max || from < 0 || from > upto || upto > clock || upto > from+ahead {
		return nil
	}
	var l []int
	for at := from + 1; at <= upto; at++ {
		if (at-from)%p == 0 {
			l = append(l, at)
		}
	}
	return l
}

// bad may none of them be, each by one number or two.
var bad = []api.Spec{
	{},
	of(0, 10, 20, 1, 2, 3), of(7, 10, 20, 1, 2, 3), of(-1, 10, 20, 1, 2, 3), of(math.MaxInt, 10, 20, 1, 2, 3), of(math.MinInt, 10, 20, 1, 2, 3),
	of(3, 2, 20, 1, 2, 3), of(2, 21, 20, 1, 2, 3), of(2, 0, 20, 1, 2, 3), of(2, -10, 20, 1, 2, 3), of(2, math.MinInt, 20, 1, 2, 3),
	of(2, 10, 9, 1, 2, 3), of(2, 10, 49, 1, 2, 3), of(2, 49, 49, 1, 2, 3), of(2, 10, math.MaxInt, 1, 2, 3), of(2, 0, 0, 1, 2, 3), of(2, -1, -1, 1, 2, 3), of(2, math.MinInt, math.MaxInt, 1, 2, 3),
	of(2, 10, 20, 0, 2, 3), of(2, 10, 20, 3, 2, 3), of(2, 10, 20, -1, 2, 3), of(2, 10, 20, 1, 0, 3), of(2, 10, 20, 0, 0, 3), of(2, 10, 20, 1, 7, 3), of(2, 10, 20, 7, 7, 3), of(2, 10, 20, 1, -2, 3), of(2, 10, 20, math.MaxInt, 2, 3), of(2, 10, 20, 1, math.MinInt, 3),
	of(2, 10, 20, 1, 2, -1), of(2, 10, 20, 1, 2, 9), of(2, 10, 20, 1, 2, 0), of(2, 20, 20, 1, 2, -1), of(2, 20, 20, 1, 2, 9), of(2, 10, 20, 1, 2, math.MaxInt),
}

// good may all of them be: an ordinary one, the shortest and the longest, one of many periods, of one, and not elastic.
var good = []api.Spec{
	of(2, 10, 20, 1, 2, 3), of(1, 1, 1, 1, 1, 0), of(6, 48, 48, 6, 6, 0), of(1, 1, 48, 1, 6, 8), of(6, 6, 48, 6, 6, 1), of(4, 9, 9, 1, 1, 5), of(3, 17, 17, 2, 5, 0), of(5, 7, 40, 2, 3, 2),
}

// far are units, and periods, that no task has.
var far = []int{
	0, -1, -2, -10, -48, -60000, -unit, 1<<32 + 10, 1<<32 + 60000, -1<<32 + 10, -1<<32 + 60000, 1 << 40, 1 << 42, 1 << 62, 1<<62 + 10, -1 << 62,
	math.MaxInt, math.MaxInt - 1, math.MinInt, math.MinInt + 1, math.MinInt + 10, math.MinInt + 60000,
}

// each hands on descriptions that may be: all but for E, of which each is taken in its turn, and 0 wherever it may be.
func each(f func(s api.Spec)) {
	turn := 0
	for c := 1; c <= 6; c++ {
		for t := c; t <= 48; t++ {
			for high := t; high <= 48; high++ {
				for k := 1; k <= 6; k++ {
					for m := 1; m <= k; m++ {
						turn++
						f(of(c, t, high, m, k, turn%8+1))
						if t == high {
							f(of(c, t, high, m, k, 0))
						}
					}
				}
			}
		}
	}
}

// checkOf fails if the period of u units is not as told.
func checkOf(t *testing.T, s api.Spec, u, p int, ok bool) {
	t.Helper()
	if n, is := Of(s, u); n != p || is != ok {
		t.Fatalf("Of(%v, %d): %d %v, not %d %v", s, u, n, is, p, ok)
	}
}

// checkEnds fails if the ends are not as told.
func checkEnds(t *testing.T, s api.Spec, p, from, upto int, l []int) {
	t.Helper()
	if got := Ends(s, p, from, upto); !slices.Equal(got, l) {
		t.Fatalf("Ends(%v, %d, %d, %d): %v, not %v", s, p, from, upto, got, l)
	}
}

// P8.1: the chapter's example, told in full.
func TestExample(t *testing.T) {
	checkOf(t, of(2, 10, 20, 1, 2, 3), 60000, 18, true)
}

// P8.1: the period of ordinary units and at the edges, each told in full.
func TestOfAsWritten(t *testing.T) {
	for _, c := range []struct {
		s    api.Spec
		u, p int
		ok   bool
	}{
		// between T and Max
		{of(2, 10, 20, 1, 2, 3), 60000, 18, true}, {of(2, 10, 20, 1, 2, 3), 80000, 14, true}, {of(5, 7, 48, 5, 6, 2), 100000, 44, true},
		// the least that there is, and one less
		{of(2, 10, 20, 1, 2, 3), 52429, 20, true}, {of(2, 10, 20, 1, 2, 3), 52428, 0, false}, {of(1, 1, 48, 1, 6, 8), 3641, 48, true}, {of(1, 1, 48, 1, 6, 8), 3640, 0, false}, {of(6, 6, 48, 6, 6, 8), 131072, 48, true}, {of(6, 6, 48, 6, 6, 8), 131071, 0, false},
		// those of T, one less, and one more
		{of(2, 10, 20, 1, 2, 3), 104858, 10, true}, {of(2, 10, 20, 1, 2, 3), 104857, 11, true}, {of(2, 10, 20, 1, 2, 3), 104859, 10, true}, {of(6, 6, 48, 6, 6, 8), unit, 6, true}, {of(6, 6, 48, 6, 6, 8), unit - 1, 7, true},
		// nothing is left: 2^20 by 16, by 32 and by 2, and one less and one more
		{of(2, 10, 20, 1, 2, 3), 65536, 16, true}, {of(2, 10, 20, 1, 2, 3), 65535, 17, true}, {of(2, 10, 20, 1, 2, 3), 65537, 16, true}, {of(3, 12, 48, 2, 4, 1), 32768, 48, true}, {of(3, 12, 48, 2, 4, 1), 32767, 0, false}, {of(1, 1, 48, 1, 1, 8), 524288, 2, true}, {of(1, 1, 48, 1, 1, 8), 524287, 3, true},
		// something is left: a third of the time, and one less
		{of(1, 1, 48, 1, 1, 8), 349526, 3, true}, {of(1, 1, 48, 1, 1, 8), 349525, 4, true}, {of(2, 2, 48, 1, 2, 8), 349525, 4, true},
		// 1, and all of the time
		{of(2, 10, 20, 1, 2, 3), 1, 0, false}, {of(1, 1, 48, 1, 6, 8), 1, 0, false}, {of(2, 10, 20, 1, 2, 3), unit, 10, true}, {of(1, 1, 1, 1, 1, 0), unit, 1, true}, {of(1, 1, 1, 1, 1, 0), unit - 1, 0, false},
		// one period, elastic and not
		{of(4, 9, 9, 1, 1, 5), 466034, 9, true}, {of(4, 9, 9, 1, 1, 5), 466033, 0, false}, {of(3, 17, 17, 2, 5, 0), 74018, 17, true}, {of(3, 17, 17, 2, 5, 0), 74017, 0, false}, {of(3, 17, 17, 2, 5, 0), unit, 17, true}, {of(3, 17, 17, 2, 5, 0), 1, 0, false},
		// none, and beyond
		{of(2, 10, 20, 1, 2, 3), 0, 0, false}, {of(2, 10, 20, 1, 2, 3), -1, 0, false}, {of(2, 10, 20, 1, 2, 3), unit + 1, 0, false}, {of(2, 10, 20, 1, 2, 3), math.MaxInt, 0, false},
	} {
		checkOf(t, c.s, c.u, c.p, c.ok)
	}
}

// P8.1: every description but for E, at the units of its first, last and other periods, one less and one more, held against the chapter's words.
func TestOfByItsMeaning(t *testing.T) {
	each(func(s api.Spec) {
		for _, p := range []int{s.T, s.T + 1, (s.T + s.Max) / 2, s.Max, s.Max + 1} {
			u := s.C * s.M * unit / (s.K * p)
			for _, x := range []int{u - 1, u, u + 1, u + 2} {
				q, ok := refOf(s, x)
				checkOf(t, s, x, q, ok)
			}
		}
		for _, u := range []int{0, 1, unit, unit + 1} {
			q, ok := refOf(s, u)
			checkOf(t, s, u, q, ok)
		}
	})
}

// P8.1: units all along, held against the chapter's words.
func TestOfAllAlong(t *testing.T) {
	for _, s := range good {
		for u := -100; u <= unit+100; u += 37 {
			q, ok := refOf(s, u)
			checkOf(t, s, u, q, ok)
		}
	}
}

// P8.1: units that may not be, of any description.
func TestOfWrongUnits(t *testing.T) {
	for _, s := range slices.Concat(good, bad) {
		for _, u := range slices.Concat(far, []int{unit + 1, unit + 2, 2 * unit}) {
			checkOf(t, s, u, 0, false)
		}
	}
}

// P8.1: the periods that a task may have, told in full.
func TestAllAsWritten(t *testing.T) {
	for _, c := range []struct {
		s api.Spec
		l []int
	}{
		{of(2, 10, 20, 1, 2, 3), []int{10, 11, 12, 13, 14, 15, 16, 17, 18, 19, 20}}, {of(1, 1, 3, 1, 6, 8), []int{1, 2, 3}}, {of(6, 47, 48, 6, 6, 1), []int{47, 48}},
		// one period, elastic and not
		{of(4, 9, 9, 1, 1, 5), []int{9}}, {of(3, 17, 17, 2, 5, 0), []int{17}}, {of(1, 1, 1, 1, 1, 0), []int{1}}, {of(6, 48, 48, 6, 6, 0), []int{48}},
	} {
		if l := All(c.s); !slices.Equal(l, c.l) {
			t.Errorf("All(%v): %v, not %v", c.s, l, c.l)
		}
	}
}

// P8.1: every description but for E, held against the chapter's words.
func TestAllByItsMeaning(t *testing.T) {
	each(func(s api.Spec) {
		if l := All(s); !slices.Equal(l, refAll(s)) {
			t.Fatalf("All(%v): %v", s, l)
		}
	})
}

// P8.1, P8.2: descriptions that may not be have no periods, and no ends.
func TestThoseThatMayNotBe(t *testing.T) {
	for _, s := range bad {
		for _, u := range []int{1, 3641, 52429, 60000, 104858, 524288, unit} {
			checkOf(t, s, u, 0, false)
		}
		if l := All(s); len(l) != 0 {
			t.Errorf("All(%v): %v", s, l)
		}
		for _, p := range slices.Concat(far, []int{1, 2, 9, 10, 11, 15, 20, 21, 48, s.T, s.Max}) {
			for _, upto := range []int{0, 10, 100, 5000} {
				checkEnds(t, s, p, 0, upto, nil)
			}
		}
	}
}

// P8.2: ordinary ends and those at the edges, each told in full.
func TestEndsAsWritten(t *testing.T) {
	s := of(2, 10, 20, 1, 2, 3)
	for _, c := range []struct {
		p, from, upto int
		l             []int
	}{
		{15, 7, 60, []int{22, 37, 52}}, {13, 100, 130, []int{113, 126}},
		// T and Max, and one beside them
		{10, 0, 45, []int{10, 20, 30, 40}}, {20, 0, 45, []int{20, 40}}, {9, 0, 45, nil}, {21, 0, 45, nil},
		// just an end, one less, and one more
		{10, 5, 25, []int{15, 25}}, {10, 5, 24, []int{15}}, {10, 5, 26, []int{15, 25}}, {11, 0, 11, []int{11}}, {11, 0, 10, nil}, {11, 0, 12, []int{11}},
		// from that is upto, one below it, and one above it
		{10, 7, 7, nil}, {10, 0, 0, nil}, {10, clock, clock, nil}, {10, 7, 8, nil}, {10, 8, 7, nil},
		// the clock's end, and one more
		{20, clock - 20, clock, []int{clock}}, {20, clock - 21, clock, []int{clock - 1}}, {20, clock - 19, clock, nil}, {20, clock - 20, clock - 1, nil}, {20, clock - 20, clock + 1, nil}, {20, clock, clock + 1, nil}, {20, clock + 1, clock + 1, nil}, {20, clock + 1, clock + 50, nil},
		// from below 0
		{10, -1, 50, nil}, {10, -1, -1, nil}, {10, -10, 0, nil}, {10, -100, -50, nil},
	} {
		checkEnds(t, s, c.p, c.from, c.upto, c.l)
	}
}

// P8.2: a description that is not elastic, and those of one period and of a period of 1.
func TestEndsOfOnePeriod(t *testing.T) {
	checkEnds(t, of(3, 17, 17, 2, 5, 0), 17, 3, 54, []int{20, 37, 54})
	checkEnds(t, of(3, 17, 17, 2, 5, 0), 16, 3, 54, nil)
	checkEnds(t, of(3, 17, 17, 2, 5, 0), 18, 3, 54, nil)
	checkEnds(t, of(4, 9, 9, 1, 1, 5), 9, 0, 26, []int{9, 18})
	checkEnds(t, of(1, 1, 1, 1, 1, 0), 1, 4, 8, []int{5, 6, 7, 8})
	checkEnds(t, of(6, 48, 48, 6, 6, 0), 48, 1, 97, []int{49, 97})
}

// P8.2: upto just 5000 above from, and one more, from each time that is an edge.
func TestEndsFarAhead(t *testing.T) {
	for _, s := range good {
		for _, p := range []int{s.T, s.Max} {
			for _, from := range []int{0, 1, 7, 5000, 5001, 1 << 20, 1<<32 - 1, 1 << 39, clock - 5001, clock - 5000} {
				for _, by := range []int{4999, 5000} {
					l := Ends(s, p, from, from+by)
					if len(l) != by/p || l[0] != from+p || l[len(l)-1] != from+by/p*p {
						t.Errorf("Ends(%v, %d, %d, %d): %d of them", s, p, from, from+by, len(l))
					}
				}
				for _, by := range []int{5001, 5002, 10000, 1 << 20} {
					checkEnds(t, s, p, from, from+by, nil)
				}
			}
			checkEnds(t, s, p, 0, clock, nil)
		}
	}
}

// P8.2: every short stretch, of every period, held against the chapter's words.
func TestEndsByItsMeaning(t *testing.T) {
	for _, s := range good {
		for p := -1; p <= 50; p++ {
			for _, from := range []int{-1, 0, 1, 9, 10, 11, 1 << 30, clock - 130, clock - 60, clock - 48, clock - 1, clock, clock + 1} {
				for by := -2; by <= 130; by++ {
					checkEnds(t, s, p, from, from+by, refEnds(s, p, from, from+by))
				}
			}
		}
	}
}

// P8.2: every description but for E, at the first and last of its periods and beside them, held against the chapter's words.
func TestEndsOfEvery(t *testing.T) {
	each(func(s api.Spec) {
		for _, p := range []int{s.T - 1, s.T, s.Max, s.Max + 1} {
			checkEnds(t, s, p, 5, 103, refEnds(s, p, 5, 103))
		}
	})
}

// P8.2: periods that a task does not have.
func TestEndsAtWrongPeriods(t *testing.T) {
	for _, s := range good {
		for _, p := range slices.Concat(far, []int{s.T - 1, s.Max + 1, 49, 50, 256 + s.T, 5000}) {
			for _, from := range []int{0, 1, 100, clock - 5000} {
				checkEnds(t, s, p, from, from+5000, nil)
				checkEnds(t, s, p, from, from, nil)
			}
		}
	}
}

// P8.2: times so far beyond that one less the other is more than a word, and all that are beyond the clock.
func TestEndsBeyondAWord(t *testing.T) {
	beyond := []int{
		math.MinInt, math.MinInt + 1, math.MinInt + 20, math.MinInt + 5000, -1 << 62, -clock - 20, -clock, -5000, -1,
		clock + 1, clock + 20, clock + 5000, 1 << 41, 1 << 62, math.MaxInt - 5000, math.MaxInt - 20, math.MaxInt - 1, math.MaxInt,
	}
	within := []int{0, 1, 20, 5000, 1 << 20, clock - 20, clock}
	for _, s := range good {
		for _, p := range []int{s.T, s.Max} {
			for _, a := range beyond {
				for _, b := range slices.Concat(beyond, within) {
					checkEnds(t, s, p, a, b, nil)
					checkEnds(t, s, p, b, a, nil)
				}
			}
		}
	}
}

// P8.1, P8.2: a list that was answered is the caller's own, to the end of its room.
func TestListsAreTheCallers(t *testing.T) {
	s := of(2, 10, 20, 1, 2, 3)
	spoil := func(l []int) {
		for i := range l[:cap(l)] {
			l[:cap(l)][i] = -77
		}
	}
	all, ends := All(s), Ends(s, 10, 0, 45)
	spoil(All(s))
	spoil(Ends(s, 10, 0, 45))
	if !slices.Equal(all, refAll(s)) || !slices.Equal(All(s), refAll(s)) {
		t.Errorf("All: %v, %v", all, All(s))
	}
	want := []int{10, 20, 30, 40}
	if !slices.Equal(ends, want) || !slices.Equal(Ends(s, 10, 0, 45), want) {
		t.Errorf("Ends: %v, %v", ends, Ends(s, 10, 0, 45))
	}
}

// P8.3: at the period of units a task has no more than these; at each lesser one it would have more; where there is none it would have more at all.
func TestNoMoreThanTheseUnits(t *testing.T) {
	hold := func(s api.Spec, u int) {
		t.Helper()
		p, ok := Of(s, u)
		for _, q := range All(s) {
			fits := ok && q >= p
			if (units.At(s, q) <= u) != fits {
				t.Fatalf("Of(%v, %d): %d %v, and %d at %d", s, u, p, ok, units.At(s, q), q)
			}
		}
	}
	for _, s := range good {
		for u := 1; u <= unit; u += 997 {
			hold(s, u)
		}
		hold(s, unit)
	}
	each(func(s api.Spec) {
		hold(s, units.Top(s))
		hold(s, max(units.Least(s)-1, 1))
	})
}

// P8.3: the units that a task has at a period are those of that one, or of a lesser one with as many.
func TestThereAndBack(t *testing.T) {
	each(func(s api.Spec) {
		for _, p := range []int{s.T, (s.T + s.Max) / 2, s.Max} {
			u := units.At(s, p)
			q, ok := Of(s, u)
			if !ok || q < s.T || q > p || units.At(s, q) != u {
				t.Fatalf("Of(%v, %d): %d %v, not %d", s, u, q, ok, p)
			}
		}
	})
}
