package demand

import (
	"math"
	"slices"
	"testing"

	"fusee/api"
	"fusee/pat"
)

// unit, load, tasks, clock and many are told by their numbers, so that a test fails if one of them is taken for another.
const (
	unit  = 1048576
	load  = 983040
	tasks = 4
	clock = 1 << 40
	many  = 1000
)

// at is a description of six numbers, C, T, Max, M, K and E, at a period.
func at(p, c, t, high, m, k, e int) api.Fix {
	return api.Fix{S: api.Spec{C: c, T: t, Max: high, M: m, K: k, E: e}, P: p}
}

// fix is a task of one period that is not elastic.
func fix(c, p, m, k int) api.Fix {
	return at(p, c, p, p, m, k, 0)
}

// list is tasks in order.
func list(l ...api.Fix) []api.Fix { return l }

// of is one task, so many times.
func of(n int, x api.Fix) []api.Fix {
	return slices.Repeat(list(x), n)
}

// example is the chapter's.
var example = at(10, 2, 10, 20, 1, 2, 3)

// refKnown says by the document's words whether a description may be, and has its period, without the layers below.
func refKnown(x api.Fix) bool {
	s := x.S
	return s.C >= 1 && s.C <= 6 && s.C <= s.T && s.T <= s.Max && s.Max <= 48 &&
		s.M >= 1 && s.M <= s.K && s.K <= 6 && s.E >= 0 && s.E <= 8 && (s.E != 0 || s.T == s.Max) &&
		x.P >= s.T && x.P <= s.Max
}

// refUp is the least number that times b is no less than a.
func refUp(a, b int) int { return (a + b - 1) / b }

// refMay says by the chapter's words whether tasks may be.
func refMay(l []api.Fix) bool {
	sum := 0
	for _, x := range l {
		if !refKnown(x) {
			return false
		}
		sum += refUp(x.S.C*x.S.M*unit, x.S.K*x.P)
	}
	return len(l) <= tasks && sum <= load
}

// refOf says by the chapter's words how much of one must be done.
func refOf(x api.Fix, n int) int {
	if !refKnown(x) || n < 0 || n > clock {
		return 0
	}
	return x.S.C * refUp(n/x.P*x.S.M, x.S.K)
}

// refAll says by the chapter's words how much of all must be done.
func refAll(l []api.Fix, n int) int {
	sum := 0
	for _, x := range l {
		sum += refOf(x, n)
	}
	if len(l) > many {
		return 0
	}
	return sum
}

// refHorizon says by the chapter's words from where on there is no question.
func refHorizon(l []api.Fix) int {
	if !refMay(l) {
		return 0
	}
	sum := 0
	for _, x := range l {
		sum += x.S.C
	}
	return refUp(sum*unit, unit-load)
}

// refFirst says by the chapter's words where it is too much: each stretch is asked in its turn, the least one first.
func refFirst(l []api.Fix) int {
	for n := 1; n < refHorizon(l); n++ {
		if refAll(l, n) > n {
			return n
		}
	}
	return 0
}

// bad may none of them be, by their descriptions.
var bad = []api.Fix{
	{}, {P: 1}, {P: 10}, {S: example.S}, {S: api.Spec{T: 10, Max: 20}, P: 10},
	at(10, 0, 10, 20, 1, 2, 3), at(10, 7, 10, 20, 1, 2, 3), at(10, -1, 10, 20, 1, 2, 3), at(10, math.MaxInt, 10, 20, 1, 2, 3), at(10, math.MinInt, 10, 20, 1, 2, 3),
	at(10, 3, 2, 20, 1, 2, 3), at(20, 2, 21, 20, 1, 2, 3), at(10, 2, 0, 20, 1, 2, 3), at(10, 2, -10, 20, 1, 2, 3), at(10, 2, math.MinInt, 20, 1, 2, 3),
	at(10, 2, 10, 9, 1, 2, 3), at(10, 2, 10, 49, 1, 2, 3), at(49, 2, 49, 49, 1, 2, 3), at(10, 2, 10, math.MaxInt, 1, 2, 3), at(0, 2, 0, 0, 1, 2, 3), at(-1, 2, -1, -1, 1, 2, 3), at(0, 2, math.MinInt, math.MaxInt, 1, 2, 3),
	at(10, 2, 10, 20, 0, 2, 3), at(10, 2, 10, 20, 3, 2, 3), at(10, 2, 10, 20, -1, 2, 3), at(10, 2, 10, 20, 1, 0, 3), at(10, 2, 10, 20, 0, 0, 3), at(10, 2, 10, 20, 1, 7, 3), at(10, 2, 10, 20, 7, 7, 3), at(10, 2, 10, 20, 1, -2, 3), at(10, 2, 10, 20, math.MaxInt, 2, 3), at(10, 2, 10, 20, 1, math.MinInt, 3),
	at(10, 2, 10, 20, 1, 2, -1), at(10, 2, 10, 20, 1, 2, 9), at(10, 2, 10, 20, 1, 2, 0), at(20, 2, 20, 20, 1, 2, -1), at(20, 2, 20, 20, 1, 2, 9), at(10, 2, 10, 20, 1, 2, math.MaxInt),
}

// astray have descriptions that may be, and periods that these do not have.
var astray = []api.Fix{
	at(9, 2, 10, 20, 1, 2, 3), at(21, 2, 10, 20, 1, 2, 3), at(0, 2, 10, 20, 1, 2, 3), at(-1, 2, 10, 20, 1, 2, 3), at(-10, 2, 10, 20, 1, 2, 3), at(1, 2, 10, 20, 1, 2, 3), at(48, 2, 10, 20, 1, 2, 3), at(266, 2, 10, 20, 1, 2, 3), at(1<<32+10, 2, 10, 20, 1, 2, 3),
	at(math.MaxInt, 2, 10, 20, 1, 2, 3), at(math.MinInt, 2, 10, 20, 1, 2, 3), at(math.MinInt+10, 2, 10, 20, 1, 2, 3),
	at(16, 3, 17, 17, 2, 5, 0), at(18, 3, 17, 17, 2, 5, 0), at(0, 1, 1, 1, 1, 1, 0), at(2, 1, 1, 1, 1, 1, 0), at(47, 6, 48, 48, 6, 6, 0), at(49, 6, 48, 48, 6, 6, 0), at(0, 1, 1, 48, 1, 6, 8), at(49, 1, 1, 48, 1, 6, 8), at(5, 6, 6, 48, 6, 6, 1),
}

// good may all of them be, alone: ordinary ones, the shortest and the longest, at T, at Max and between, all mandatory, and one of K.
var good = []api.Fix{
	example, at(15, 2, 10, 20, 1, 2, 3), at(20, 2, 10, 20, 1, 2, 3), at(1, 1, 1, 48, 1, 6, 8), at(48, 1, 1, 48, 1, 6, 8), at(7, 6, 6, 48, 6, 6, 1), at(48, 6, 6, 48, 6, 6, 1), at(6, 6, 6, 48, 1, 6, 1),
	fix(3, 4, 1, 1), fix(6, 48, 6, 6), fix(3, 17, 2, 5), fix(1, 48, 1, 6), at(31, 5, 7, 40, 2, 3, 2),
}

// each hands on tasks that may be: every C, T, Max, M and K, with E by turns, and 0 wherever it may be, at the first, the last and one period between.
func each(f func(x api.Fix)) {
	turn := 0
	for c := 1; c <= 6; c++ {
		for t := c; t <= 48; t++ {
			for high := t; high <= 48; high++ {
				for k := 1; k <= 6; k++ {
					for m := 1; m <= k; m++ {
						turn++
						f(at(t, c, t, high, m, k, turn%8+1))
						f(at(high, c, t, high, m, k, turn%8+1))
						f(at((t+high)/2, c, t, high, m, k, turn%8+1))
						if t == high {
							f(at(t, c, t, high, m, k, 0))
						}
					}
				}
			}
		}
	}
}

// drawn hands on so many lists of up to 5 tasks, of long periods and short ones, always the same lists.
func drawn(times int, f func(l []api.Fix)) {
	state := uint64(9)
	draw := func(low, high int) int {
		state = state*6364136223846793005 + 1442695040888963407
		return low + int(state>>33)%(high-low+1)
	}
	for range times {
		var l []api.Fix
		for range draw(1, 5) {
			c, k := draw(1, 6), draw(1, 6)
			p := draw(c, []int{8, 16, 48}[draw(0, 2)])
			x := at(p, c, draw(c, p), draw(p, 48), draw(1, k), k, draw(1, 8))
			l = append(l, x)
		}
		f(l)
	}
}

// pairs hands on lists of two tasks of one period each, which together come near to the load.
func pairs(f func(l []api.Fix)) {
	var all []api.Fix
	for c := 1; c <= 6; c++ {
		for p := c; p <= 48; p++ {
			for k := 1; k <= 6; k++ {
				for m := 1; m <= k; m++ {
					all = append(all, fix(c, p, m, k))
				}
			}
		}
	}
	for i := 0; i < len(all); i += 5 {
		for j := i; j < len(all); j += 7 {
			x, y := all[i], all[j]
			u := x.S.C*x.S.M*unit/(x.S.K*x.P) + y.S.C*y.S.M*unit/(y.S.K*y.P)
			if u > load-unit/20 && u < load+unit/50 {
				f(list(x, y))
			}
		}
	}
}

func checkOf(t *testing.T, x api.Fix, n, want int) {
	t.Helper()
	if got := Of(x, n); got != want {
		t.Fatalf("Of(%v, %d): %d, not %d", x, n, got, want)
	}
}

func checkAll(t *testing.T, l []api.Fix, n, want int) {
	t.Helper()
	if got := All(l, n); got != want {
		t.Fatalf("All of %d, %d: %d, not %d", len(l), n, got, want)
	}
}

// checkList fails if what is told of a list is not so.
func checkList(t *testing.T, l []api.Fix, may bool, horizon, first int) {
	t.Helper()
	if May(l) != may {
		t.Fatalf("May(%v): %v", l, !may)
	}
	if n := Horizon(l); n != horizon {
		t.Fatalf("Horizon(%v): %d, not %d", l, n, horizon)
	}
	if n := First(l); n != first {
		t.Fatalf("First(%v): %d, not %d", l, n, first)
	}
	if Test(l) != (may && first == 0) {
		t.Fatalf("Test(%v): %v", l, Test(l))
	}
}

// P9.1: the chapter's example, told in full.
func TestExample(t *testing.T) {
	for n := range 50 {
		want := 0
		if n >= 10 {
			want = 2
		}
		if n >= 30 {
			want = 4
		}
		checkOf(t, example, n, want)
	}
}

// P9.1: how much of one must be done, ordinary and at the edges, each told in full.
func TestOfAsWritten(t *testing.T) {
	for _, c := range []struct {
		x       api.Fix
		n, want int
	}{
		// none, one less than P, P itself, and one more
		{example, 0, 0}, {example, 1, 0}, {example, 9, 0}, {example, 10, 2}, {example, 11, 2},
		// whole periods and one less
		{example, 19, 2}, {example, 20, 2}, {example, 29, 2}, {example, 30, 4}, {example, 49, 4}, {example, 50, 6}, {example, 1000, 100}, {example, 1010, 102},
		// at Max, at T, and between
		{at(20, 2, 10, 20, 1, 2, 3), 19, 0}, {at(20, 2, 10, 20, 1, 2, 3), 20, 2}, {at(20, 2, 10, 20, 1, 2, 3), 59, 2}, {at(20, 2, 10, 20, 1, 2, 3), 60, 4}, {at(13, 2, 10, 20, 1, 2, 3), 38, 2}, {at(13, 2, 10, 20, 1, 2, 3), 39, 4},
		// all jobs are mandatory, as 1 of 1 and as 6 of 6
		{fix(3, 4, 1, 1), 3, 0}, {fix(3, 4, 1, 1), 4, 3}, {fix(3, 4, 1, 1), 7, 3}, {fix(3, 4, 1, 1), 8, 6}, {fix(3, 4, 1, 1), 100, 75}, {fix(6, 48, 6, 6), 47, 0}, {fix(6, 48, 6, 6), 48, 6}, {fix(6, 48, 6, 6), 96, 12}, {fix(6, 48, 6, 6), 480, 60},
		// one of 6 is
		{fix(5, 7, 1, 6), 6, 0}, {fix(5, 7, 1, 6), 7, 5}, {fix(5, 7, 1, 6), 42, 5}, {fix(5, 7, 1, 6), 48, 5}, {fix(5, 7, 1, 6), 49, 10}, {fix(5, 7, 1, 6), 90, 10}, {fix(5, 7, 1, 6), 91, 15},
		// 2 of 5 are, and 5 of 6
		{fix(1, 3, 2, 5), 3, 1}, {fix(1, 3, 2, 5), 6, 1}, {fix(1, 3, 2, 5), 8, 1}, {fix(1, 3, 2, 5), 9, 2}, {fix(1, 3, 2, 5), 17, 2}, {fix(1, 3, 2, 5), 18, 3}, {fix(4, 5, 5, 6), 25, 20}, {fix(4, 5, 5, 6), 30, 20}, {fix(4, 5, 5, 6), 35, 24},
		// 2^40, one less, and one more
		{example, clock, 109951162778}, {example, clock + 1, 0}, {example, clock - 1, 109951162778}, {fix(1, 1, 1, 1), clock, clock}, {fix(1, 1, 1, 1), clock - 1, clock - 1}, {fix(1, 1, 1, 1), clock + 1, 0}, {fix(6, 6, 6, 6), clock, 1099511627772}, {fix(6, 48, 1, 6), clock, 22906492248}, {fix(6, 48, 1, 6), clock + 1, 0},
		// below 0, and far beyond
		{example, -1, 0}, {example, -10, 0}, {example, -clock, 0}, {example, math.MinInt, 0}, {example, 1 << 41, 0}, {example, 1 << 62, 0}, {example, 1<<62 + 1, 0}, {example, math.MaxInt, 0},
	} {
		checkOf(t, c.x, c.n, c.want)
	}
}

// P9.1: every description but for E, at the edges of its periods, held against the chapter's words.
func TestOfByItsMeaning(t *testing.T) {
	each(func(x api.Fix) {
		for _, n := range []int{-1, 0, x.P - 1, x.P, 2*x.P - 1, 2 * x.P, x.S.K*x.P - 1, x.S.K * x.P, (x.S.K + 1) * x.P, clock, clock + 1} {
			checkOf(t, x, n, refOf(x, n))
		}
	})
}

// P9.1: every stretch of some length, and up to the clock's end, held against the chapter's words.
func TestOfAllAlong(t *testing.T) {
	for _, x := range good {
		for n := -60; n <= 1200; n++ {
			checkOf(t, x, n, refOf(x, n))
			checkOf(t, x, clock-n, refOf(x, clock-n))
			checkOf(t, x, clock/3+n, refOf(x, clock/3+n))
		}
	}
}

// P9.1: each mandatory job that there is time for from job 0 on adds as long as it is, where just its period has passed.
func TestOfGoesJobByJob(t *testing.T) {
	for _, x := range good {
		sum := 0
		for n := range 30 * x.P {
			if n > 0 && n%x.P == 0 && pat.On(x.S.M, x.S.K, n/x.P-1) {
				sum += x.S.C
			}
			checkOf(t, x, n, sum)
		}
	}
}

// wide are stretches of all kinds.
var wide = []int{math.MinInt, math.MinInt + 10, -1 << 40, -10, -1, 0, 1, 9, 10, 11, 48, 100, 1 << 20, 1 << 32, clock - 1, clock, clock + 1, 1 << 41, 1 << 62, math.MaxInt - 1, math.MaxInt}

// P9.1: of those that may not be, or are not at one of their periods, nothing must be done.
func TestOfWrongTasks(t *testing.T) {
	for _, x := range slices.Concat(bad, astray) {
		for _, n := range wide {
			checkOf(t, x, n, 0)
			checkAll(t, list(x), n, 0)
		}
	}
}

// P9.1: every period of some descriptions and beside them, held against the chapter's words.
func TestOfEachPeriod(t *testing.T) {
	for _, x := range good {
		for p := -3; p <= 52; p++ {
			x.P = p
			for _, n := range wide {
				checkOf(t, x, n, refOf(x, n))
			}
		}
	}
}

// P9.1: how much of all must be done together, each told in full.
func TestAllAsWritten(t *testing.T) {
	for _, c := range []struct {
		l       []api.Fix
		n, want int
	}{
		{nil, 10, 0}, {list(), 10, 0}, {nil, clock, 0}, {nil, -1, 0},
		{list(example), 30, 4}, {list(example, example, fix(3, 4, 1, 1)), 10, 10}, {list(example, fix(3, 4, 1, 1)), 9, 6}, {list(example, fix(3, 4, 1, 1)), 3, 0}, {list(fix(3, 4, 1, 1), fix(1, 6, 1, 1), fix(5, 7, 1, 6)), 49, 54},
		// those that may not be add nothing, wherever they stand
		{list(api.Fix{}, example), 30, 4}, {list(example, api.Fix{}), 30, 4}, {list(example, at(9, 2, 10, 20, 1, 2, 3), example), 30, 8}, {list(at(10, 7, 10, 20, 1, 2, 3), example, at(21, 2, 10, 20, 1, 2, 3)), 30, 4}, {make([]api.Fix, 7), 30, 0},
		// more than may be as tasks, and more than fit
		{of(4, example), 30, 16}, {of(5, example), 30, 20}, {of(40, fix(1, 1, 1, 1)), 30, 1200}, {list(fix(1, 1, 1, 1), fix(6, 6, 1, 1)), 6, 12},
		// 2^40, one more, and below 0
		{list(fix(1, 1, 1, 1), fix(1, 2, 1, 1)), clock, clock / 2 * 3}, {list(fix(1, 1, 1, 1), fix(1, 2, 1, 1)), clock + 1, 0}, {list(example, fix(1, 1, 1, 1)), -1, 0}, {list(example, fix(1, 1, 1, 1)), math.MinInt, 0}, {list(example, fix(1, 1, 1, 1)), math.MaxInt, 0},
	} {
		checkAll(t, c.l, c.n, c.want)
	}
}

// P9.1: a list of 1000 has all, one of 1001 nothing, whatever stands in it.
func TestAllOfLongLists(t *testing.T) {
	one := fix(1, 1, 1, 1)
	checkAll(t, of(999, example), 30, 3996)
	checkAll(t, of(1000, example), 30, 4000)
	checkAll(t, of(1001, example), 30, 0)
	checkAll(t, of(1000, one), clock, 1000*clock)
	checkAll(t, of(1000, one), clock+1, 0)
	checkAll(t, of(1001, one), clock, 0)
	checkAll(t, of(1002, one), 1, 0)
	checkAll(t, of(5000, one), 1, 0)
	checkAll(t, append(make([]api.Fix, 999), one), 5, 5)
	checkAll(t, append(list(one), make([]api.Fix, 999)...), 5, 5)
	checkAll(t, append(make([]api.Fix, 1000), one), 5, 0)
	checkAll(t, append(list(one), make([]api.Fix, 1000)...), 5, 0)
	checkAll(t, make([]api.Fix, 1000), 5, 0)
	checkAll(t, make([]api.Fix, 1001), 5, 0)
	checkAll(t, make([]api.Fix, 1000, 2000), 5, 0)
	checkAll(t, of(1001, one)[:1000], 5, 5000)
}

// P9.1: lists of all lengths up to the most, held against the chapter's words.
func TestAllByItsMeaning(t *testing.T) {
	var l []api.Fix
	for i := range 1010 {
		for _, n := range []int{-1, 0, 7, 48, 1000, clock, clock + 1} {
			checkAll(t, l, n, refAll(l, n))
		}
		pool := slices.Concat(good, bad[:3], astray[:3])
		l = append(l, pool[i*7%len(pool)])
	}
}

// P9.1, P9.2: lists that are ordinary, and those at the edges, each told in full.
func TestListsAsWritten(t *testing.T) {
	for _, c := range []struct {
		l              []api.Fix
		may            bool
		horizon, first int
	}{
		// no tasks, one, 4, and 5
		{nil, true, 0, 0}, {list(), true, 0, 0}, {list(example), true, 32, 0}, {of(4, example), true, 128, 0}, {of(5, example), false, 0, 0}, {of(4, fix(1, 48, 1, 6)), true, 64, 0}, {of(5, fix(1, 48, 1, 6)), false, 0, 0}, {of(1000, fix(1, 48, 1, 6)), false, 0, 0},
		// the shortest and the longest horizon
		{list(fix(1, 48, 1, 1)), true, 16, 0}, {list(fix(6, 48, 1, 1)), true, 96, 0}, {of(4, fix(6, 48, 1, 1)), true, 384, 0},
		// units that just fit: of two, and of 4
		{list(fix(3, 4, 1, 1), fix(3, 16, 1, 1)), true, 96, 0}, {list(fix(1, 1, 3, 4), fix(6, 32, 6, 6)), true, 112, 0}, {list(fix(1, 2, 1, 1), fix(1, 4, 1, 1), fix(1, 8, 1, 1), fix(1, 16, 1, 1)), true, 64, 0}, {list(fix(1, 2, 3, 4), fix(6, 8, 3, 4)), true, 112, 8},
		// units that are more: by one, as each is rounded up, though the quotients would be just the load; and by more
		{list(fix(1, 1, 5, 6), fix(6, 48, 5, 6)), false, 0, 0}, {list(fix(1, 2, 5, 6), fix(5, 8, 5, 6)), false, 0, 0}, {list(fix(1, 1, 2, 4), fix(1, 2, 2, 3), fix(6, 48, 5, 6)), false, 0, 0}, {list(fix(1, 1, 1, 1)), false, 0, 0}, {list(fix(6, 6, 6, 6)), false, 0, 0}, {list(fix(3, 4, 1, 1), fix(2, 10, 1, 1)), false, 0, 0}, {list(fix(5, 10, 1, 1), fix(5, 10, 1, 1)), false, 0, 0},
		// a task at its T is too much, and at its Max is not; at one between it just fits
		{list(at(6, 6, 6, 48, 6, 6, 1)), false, 0, 0}, {list(at(7, 6, 6, 48, 6, 6, 1)), true, 96, 0}, {list(at(48, 6, 6, 48, 6, 6, 1)), true, 96, 0}, {list(fix(3, 4, 1, 1), at(15, 3, 3, 48, 1, 1, 1)), false, 0, 0}, {list(fix(3, 4, 1, 1), at(16, 3, 3, 48, 1, 1, 1)), true, 96, 0},
		// First is 1
		{of(2, fix(1, 1, 1, 6)), true, 32, 1}, {of(4, fix(1, 1, 1, 6)), true, 64, 1}, {list(fix(1, 1, 1, 2), fix(1, 1, 1, 3)), true, 32, 1},
		// First is later
		{list(fix(3, 3, 1, 2), fix(2, 4, 1, 2)), true, 80, 4}, {list(fix(2, 2, 1, 6), fix(2, 3, 1, 6), fix(2, 5, 1, 6)), true, 96, 3}, {of(2, fix(6, 6, 1, 6)), true, 192, 6}, {list(fix(1, 1, 1, 2), fix(5, 9, 2, 3)), true, 96, 9}, {list(fix(1, 1, 5, 6), fix(6, 35, 1, 3)), true, 112, 35}, {list(fix(4, 5, 2, 2), fix(6, 27, 3, 5)), true, 160, 55},
		// and much later
		{list(fix(5, 36, 5, 6), fix(5, 48, 4, 6), fix(6, 6, 3, 4)), true, 256, 108}, {list(fix(1, 42, 1, 4), fix(4, 17, 3, 4), fix(1, 1, 3, 4)), true, 96, 51}, {list(fix(6, 20, 2, 2), fix(6, 33, 4, 5), fix(6, 43, 3, 4), fix(6, 13, 5, 6)), true, 384, 143},
		// none, though not all jobs are mandatory: of the last two the one is just enough, and the other, at a period of one less, is not
		{list(fix(3, 3, 1, 2), fix(2, 8, 1, 2)), true, 80, 0}, {list(fix(1, 1, 1, 2), fix(1, 2, 1, 3)), true, 32, 0}, {list(fix(1, 1, 1, 2), fix(1, 2, 1, 2)), true, 32, 0}, {list(fix(3, 3, 1, 6), fix(3, 6, 1, 6)), true, 96, 0}, {list(fix(3, 3, 1, 6), fix(3, 5, 1, 6)), true, 96, 5},
		// none, as all jobs are mandatory
		{list(fix(3, 4, 1, 1)), true, 48, 0}, {list(fix(3, 4, 1, 1), fix(1, 6, 1, 1)), true, 64, 0}, {list(fix(3, 4, 1, 1), fix(2, 12, 1, 1)), true, 80, 0},
	} {
		checkList(t, c.l, c.may, c.horizon, c.first)
	}
}

// P9.1, P9.2: a list may not be with one that may not be, alone and among others, wherever it stands.
func TestWrongLists(t *testing.T) {
	for _, x := range slices.Concat(bad, astray) {
		checkList(t, list(x), false, 0, 0)
		checkList(t, of(4, x), false, 0, 0)
		for i := range 4 {
			l := of(3, fix(1, 48, 1, 6))
			checkList(t, l, true, 48, 0)
			checkList(t, slices.Insert(l, i, x), false, 0, 0)
			// with others that would be too much in some stretch
			checkList(t, slices.Insert(of(3, fix(1, 1, 1, 6)), i, x), false, 0, 0)
		}
	}
}

// P9.1, P9.2: lists that are too long, of ones that may be and of ones that may not.
func TestLongLists(t *testing.T) {
	for _, n := range []int{5, 6, 100, 1000, 1001, 100000} {
		checkList(t, make([]api.Fix, n), false, 0, 0)
		checkList(t, of(n, fix(1, 48, 1, 6)), false, 0, 0)
		checkList(t, of(n, fix(1, 48, 1, 6))[:4], true, 64, 0)
	}
}

// P9.1, P9.2: one task alone, of every description but for E, held against the chapter's words. Alone it may be just if it fits, and passes then.
func TestListsOfOne(t *testing.T) {
	turn := 0
	each(func(x api.Fix) {
		l := list(x)
		may := refMay(l)
		if May(l) != may || Horizon(l) != refHorizon(l) {
			t.Fatalf("%v: %v %d", l, May(l), Horizon(l))
		}
		turn++
		if turn%11 == 0 {
			checkList(t, l, may, refHorizon(l), 0)
		}
	})
}

// P9.1, P9.2: lists of two, held against the chapter's words; enough of each kind are among them.
func TestListsOfTwo(t *testing.T) {
	fits, passes, fails := 0, 0, 0
	pairs(func(l []api.Fix) {
		may, first := refMay(l), refFirst(l)
		checkList(t, l, may, refHorizon(l), first)
		if may {
			fits++
		}
		if may && first == 0 {
			passes++
		}
		if first > 0 {
			fails++
		}
	})
	if passes < 500 || fails < 500 || fits != passes+fails {
		t.Errorf("%d fit, %d pass, %d do not", fits, passes, fails)
	}
}

// P9.1, P9.2: lists of one to 5, held against the chapter's words; enough of each kind are among them.
func TestListsOfMany(t *testing.T) {
	var passes, fails, others [6]int
	drawn(10000, func(l []api.Fix) {
		may, first := refMay(l), refFirst(l)
		checkList(t, l, may, refHorizon(l), first)
		switch {
		case first > 0:
			fails[len(l)]++
		case may:
			passes[len(l)]++
		default:
			others[len(l)]++
		}
	})
	for n := 1; n <= 4; n++ {
		if passes[n] < 20 || n > 1 && fails[n] < 20 || others[n] < 20 {
			t.Errorf("of %d: %d pass, %d do not, %d may not be", n, passes[n], fails[n], others[n])
		}
	}
}

// P9.2: First is the least one, where more than one stretch is too short.
func TestFirstIsTheLeast(t *testing.T) {
	l := list(fix(3, 3, 1, 2), fix(2, 4, 1, 2))
	var short []int
	for n := 1; n < Horizon(l); n++ {
		if All(l, n) > n {
			short = append(short, n)
		}
	}
	if len(short) == 0 || short[0] != First(l) || First(l) != 4 {
		t.Errorf("%v, and %d", short, First(l))
	}
	several := 0
	drawn(10000, func(l []api.Fix) {
		first := First(l)
		for n := first + 1; first > 0 && n < Horizon(l); n++ {
			if All(l, n) > n {
				several++
				break
			}
		}
	})
	if several < 100 {
		t.Errorf("%d have more than one", several)
	}
}

// P9.1, P9.2: what is told of a list hangs on no order.
func TestOrderIsNothing(t *testing.T) {
	drawn(2000, func(l []api.Fix) {
		back := slices.Clone(l)
		slices.Reverse(back)
		checkList(t, back, May(l), Horizon(l), First(l))
		for _, n := range []int{1, 7, 48, 300} {
			checkAll(t, back, n, All(l, n))
		}
	})
}

// P9.3: where a list may be, no stretch from the horizon on is too short; and where it passes none is at all.
func TestNothingBehindTheHorizon(t *testing.T) {
	far := []int{1 << 20, 1<<32 + 7, clock / 3, clock - 49, clock - 1, clock}
	drawn(1500, func(l []api.Fix) {
		if !May(l) {
			return
		}
		from := Horizon(l)
		if Test(l) {
			from = 0
		}
		for n := from; n <= Horizon(l)+700; n++ {
			if All(l, n) > n {
				t.Fatalf("%v: %d at %d", l, All(l, n), n)
			}
		}
		for _, n := range far {
			if All(l, n) > n {
				t.Fatalf("%v: %d at %d", l, All(l, n), n)
			}
		}
	})
}

// P9.3: so it is for lists that just fit, of which most must be done.
func TestNothingBehindTheHorizonThatJustFits(t *testing.T) {
	seen := 0
	pairs(func(l []api.Fix) {
		seen++
		if !May(l) || seen%4 != 0 {
			return
		}
		for n := Horizon(l); n <= Horizon(l)+600; n++ {
			if All(l, n) > n {
				t.Fatalf("%v: %d at %d", l, All(l, n), n)
			}
		}
	})
}

// P9.3: in a stretch of n, of the jobs that begin in it and end in it, whichever comes first and whenever it begins, the mandatory ones are no more; and that many there are if job 0 begins with it.
func TestNoStretchHasMore(t *testing.T) {
	// within is how long the mandatory jobs of a stretch are, if job j begins at begin.
	within := func(x api.Fix, n, j, begin int) int {
		sum := 0
		for end := begin + x.P; end <= n; end += x.P {
			if pat.On(x.S.M, x.S.K, j) {
				sum += x.S.C
			}
			j++
		}
		return sum
	}
	for _, x := range good {
		for n := 0; n <= 7*x.P+3; n++ {
			most := Of(x, n)
			if got := within(x, n, 0, 0); got != most {
				t.Fatalf("%v, %d: %d, not %d", x, n, got, most)
			}
			for j := range 2 * x.S.K {
				for _, begin := range []int{0, 1, x.P / 2, x.P - 1} {
					if got := within(x, n, j, begin); got > most {
						t.Fatalf("%v, %d, job %d at %d: %d, not %d", x, n, j, begin, got, most)
					}
				}
			}
		}
	}
}

// P9.3: tasks of which all jobs are mandatory pass just if they may be.
func TestAllMandatory(t *testing.T) {
	passes := 0
	drawn(3000, func(l []api.Fix) {
		for i := range l {
			l[i].S.M = l[i].S.K
		}
		checkList(t, l, refMay(l), refHorizon(l), 0)
		if Test(l) {
			passes++
		}
	})
	if passes < 100 {
		t.Errorf("%d pass", passes)
	}
}

// P9.1, P9.2: what is handed in stays as it was, and the room behind it; what is told hangs on nothing that was asked before.
func TestNothingIsKept(t *testing.T) {
	room := of(8, fix(6, 6, 6, 6))
	l := room[:2:8]
	l[0], l[1] = fix(3, 3, 1, 2), fix(2, 4, 1, 2)
	was := slices.Clone(room)
	for range 3 {
		checkList(t, l, true, 80, 4)
		checkAll(t, l, 4, 5)
		checkList(t, nil, true, 0, 0)
		checkList(t, bad, false, 0, 0)
	}
	if !slices.Equal(room, was) {
		t.Errorf("%v, not %v", room, was)
	}
}
