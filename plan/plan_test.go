package plan

import (
	"maps"
	"math"
	"slices"
	"testing"

	"fusee/api"
	"fusee/demand"
)

// unit, load, tasks and left are told by their numbers, so that a test fails if one of them is taken for another.
const (
	unit  = 1048576
	load  = 983040
	tasks = 4
	left  = 1048576
)

// of is a description of six numbers.
func of(c, t, high, m, k, e int) api.Spec {
	return api.Spec{C: c, T: t, Max: high, M: m, K: k, E: e}
}

// firm is one of one period that is not elastic.
func firm(c, p, m, k int) api.Spec { return of(c, p, p, m, k, 0) }

// list is descriptions in order.
func list(l ...api.Spec) []api.Spec { return l }

// times is one description, so many times.
func times(n int, s api.Spec) []api.Spec { return slices.Repeat(list(s), n) }

// at is descriptions, each at its period.
func at(l []api.Spec, periods ...int) []api.Fix {
	var fixes []api.Fix
	for i, s := range l {
		fixes = append(fixes, api.Fix{S: s, P: periods[i]})
	}
	return fixes
}

// exampleA and exampleB are the chapter's.
var (
	exampleA = of(4, 5, 20, 1, 1, 1)
	exampleB = of(4, 8, 20, 1, 1, 1)
)

// The references below say by the document's words what is so, without the layers below.

func refMay(s api.Spec) bool {
	return s.C >= 1 && s.C <= 6 && s.C <= s.T && s.T <= s.Max && s.Max <= 48 &&
		s.M >= 1 && s.M <= s.K && s.K <= 6 && s.E >= 0 && s.E <= 8 && (s.E != 0 || s.T == s.Max)
}

func refAllMay(l []api.Spec) bool {
	for _, s := range l {
		if !refMay(s) {
			return false
		}
	}
	return true
}

// refUp is the least number that times b is no less than a.
func refUp(a, b int) int { return (a + b - 1) / b }

// refAt is how many units one that may be has at a period.
func refAt(s api.Spec, p int) int { return refUp(s.C*s.M*unit, s.K*p) }

func refSpring(s api.Spec) api.Spr {
	return api.Spr{U: refAt(s, s.T), Min: refAt(s, s.Max), E: s.E}
}

func refSprings(l []api.Spec) ([]api.Spr, bool) {
	if len(l) > tasks || !refAllMay(l) {
		return nil, false
	}
	var springs []api.Spr
	for _, s := range l {
		springs = append(springs, refSpring(s))
	}
	return springs, true
}

// refHas is how many units, times b, a spring has by a force of a through b.
func refHas(s api.Spr, a, b int) int { return max(b*s.U-a*s.E, b*s.Min) }

// refEnough tells whether springs have no more than the load by a force of a through b.
func refEnough(l []api.Spr, a, b int) bool {
	sum := 0
	for _, s := range l {
		sum += refHas(s, a, b)
	}
	return sum <= load*b
}

// refForce is the least force that is enough, of all that there may be: none, or one by which some give just what the others, at their least, do not, for each choice of these.
func refForce(l []api.Spr) (int, int) {
	bestA, bestB := 0, 0
	try := func(a, b int) {
		if a >= 0 && b > 0 && refEnough(l, a, b) && (bestB == 0 || a*bestB < bestA*b) {
			bestA, bestB = a, b
		}
	}
	try(0, 1)
	for some := range 1 << len(l) {
		a, b := -load, 0
		for i, s := range l {
			if some>>i&1 == 1 {
				a, b = a+s.U, b+s.E
			} else {
				a += s.Min
			}
		}
		try(a, b)
	}
	return bestA, bestB
}

// refLeasts is how many units springs have at least, together.
func refLeasts(l []api.Spr) int {
	sum := 0
	for _, s := range l {
		sum += s.Min
	}
	return sum
}

// refTops is how many units springs would have, together.
func refTops(l []api.Spr) int {
	sum := 0
	for _, s := range l {
		sum += s.U
	}
	return sum
}

// refPeriod is the least period at which one has no more than u units.
func refPeriod(s api.Spec, u int) int {
	for p := s.T; p <= s.Max; p++ {
		if s.C*s.M*unit <= u*s.K*p {
			return p
		}
	}
	return 0
}

// refDemand is how much must be done in a stretch of n.
func refDemand(l []api.Fix, n int) int {
	sum := 0
	for _, x := range l {
		sum += x.S.C * refUp(n/x.P*x.S.M, x.S.K)
	}
	return sum
}

// refUnits is how many units those that may be have at their periods, together.
func refUnits(l []api.Fix) int {
	sum := 0
	for _, x := range l {
		sum += refAt(x.S, x.P)
	}
	return sum
}

// refPasses tells whether those that may be fit, and no stretch up to so long is too short for what must be done.
func refPasses(l []api.Fix, upto int) bool {
	for n := 1; n <= upto; n++ {
		if refDemand(l, n) > n {
			return false
		}
	}
	return refUnits(l) <= load
}

func refTarget(l []api.Spec) ([]api.Fix, api.Errno) {
	if len(l) > tasks {
		return nil, api.ErrFull
	}
	springs, ok := refSprings(l)
	if !ok {
		return nil, api.ErrArg
	}
	if refLeasts(springs) > load {
		return nil, api.ErrLoad
	}
	a, b := refForce(springs)
	var fixes []api.Fix
	for i, s := range l {
		fixes = append(fixes, api.Fix{S: s, P: refPeriod(s, refHas(springs[i], a, b)/b)})
	}
	// There are at most 4, of 6 each: no horizon is farther.
	if !refPasses(fixes, 24*16) {
		return nil, api.ErrBound
	}
	return fixes, api.OK
}

func refBound(l []api.Fix, r int) int {
	if len(l) > tasks || r < 0 || r > left {
		return 0
	}
	work := r
	for _, x := range l {
		if !refMay(x.S) || x.P < x.S.T || x.P > x.S.Max {
			return 0
		}
		work += x.S.C + x.S.C
	}
	if refUnits(l) > load {
		return 0
	}
	return refUp(work*unit, unit-load) + 1
}

// bad may none of them be.
var bad = []api.Spec{
	{}, {E: 1}, {T: 10, Max: 20}, {C: 2}, {C: 2, T: 10, Max: 20}, {C: 2, T: 10, Max: 20, M: 1}, {C: 2, T: 10, Max: 20, M: 1, K: 2},
	of(0, 10, 20, 1, 2, 3), of(7, 10, 20, 1, 2, 3), of(-1, 10, 20, 1, 2, 3), of(256+2, 10, 20, 1, 2, 3), of(math.MaxInt, 10, 20, 1, 2, 3), of(math.MinInt, 10, 20, 1, 2, 3),
	of(3, 2, 20, 1, 2, 3), of(2, 21, 20, 1, 2, 3), of(2, 0, 20, 1, 2, 3), of(2, -10, 20, 1, 2, 3), of(2, math.MinInt, 20, 1, 2, 3), of(2, math.MaxInt, 20, 1, 2, 3),
	of(2, 10, 9, 1, 2, 3), of(2, 10, 49, 1, 2, 3), of(2, 49, 49, 1, 2, 3), of(2, 10, math.MaxInt, 1, 2, 3), of(2, 0, 0, 1, 2, 3), of(2, -1, -1, 1, 2, 3), of(2, math.MinInt, math.MaxInt, 1, 2, 3),
	of(2, 10, 20, 0, 2, 3), of(2, 10, 20, 3, 2, 3), of(2, 10, 20, -1, 2, 3), of(2, 10, 20, 1, 0, 3), of(2, 10, 20, 0, 0, 3), of(2, 10, 20, 1, 7, 3), of(2, 10, 20, 7, 7, 3), of(2, 10, 20, 1, -2, 3), of(2, 10, 20, math.MaxInt, 2, 3), of(2, 10, 20, 1, math.MinInt, 3),
	of(2, 10, 20, 1, 2, -1), of(2, 10, 20, 1, 2, 9), of(2, 10, 20, 1, 2, 0), of(2, 20, 20, 1, 2, -1), of(2, 20, 20, 1, 2, 9), of(2, 10, 20, 1, 2, math.MaxInt), of(2, 10, 20, 1, 2, math.MinInt), of(1, 1, 2, 1, 1, 0),
}

// good may all of them be: ordinary ones, the shortest and the longest, all mandatory, and one of K.
var good = []api.Spec{
	exampleA, exampleB, of(2, 10, 20, 1, 2, 3), of(1, 1, 48, 1, 6, 8), of(6, 6, 48, 6, 6, 1), of(6, 6, 48, 1, 6, 1), of(1, 1, 1, 1, 1, 8), of(6, 48, 48, 6, 6, 5), of(5, 7, 40, 2, 3, 2),
	firm(1, 1, 1, 1), firm(3, 4, 1, 1), firm(6, 48, 6, 6), firm(3, 17, 2, 5), firm(1, 48, 1, 6),
}

// eachSpec hands on descriptions that may be: every C, T, Max, M and K, with E by turns, and 0 wherever it may be.
func eachSpec(f func(s api.Spec)) {
	turn := 0
	for c := 1; c <= 6; c++ {
		for t := c; t <= 48; t++ {
			for high := t; high <= 48; high++ {
				for k := 1; k <= 6; k++ {
					for m := 1; m <= k; m++ {
						turn++
						f(of(c, t, high, m, k, turn%8+1))
						if t == high {
							f(firm(c, t, m, k))
						}
					}
				}
			}
		}
	}
}

// drawn hands on so many lists of up to 5 descriptions that may be, always the same lists.
func drawn(times int, f func(l []api.Spec)) {
	state := uint64(10)
	draw := func(low, high int) int {
		state = state*6364136223846793005 + 1442695040888963407
		return low + int(state>>33)%(high-low+1)
	}
	for range times {
		var l []api.Spec
		for range draw(1, 5) {
			c, k := draw(1, 6), draw(1, 6)
			t := draw(c, []int{8, 16, 48}[draw(0, 2)])
			s := of(c, t, draw(t, 48), draw(1, k), k, draw(0, 8))
			if s.E == 0 {
				s.Max = s.T
			}
			if draw(0, 1) == 0 {
				s.M = s.K
			}
			l = append(l, s)
		}
		f(l)
	}
}

// near hands on lists of two elastic ones whose Ts have so many units together, all that there are of one description for each number of units, with their Max and E by turns; and each time one list whose first one is not elastic.
func near(sum int, f func(l []api.Spec)) {
	byUnits := map[int]api.Spec{}
	eachSpec(func(s api.Spec) {
		if s.T < 48 {
			byUnits[refAt(s, s.T)] = s
		}
	})
	for i, u := range slices.Sorted(maps.Keys(byUnits)) {
		other, ok := byUnits[sum-u]
		if !ok {
			continue
		}
		for turn := range 4 {
			l := list(byUnits[u], other)
			for j, s := range l {
				l[j].Max, l[j].E = min(48, s.T+1+(i+turn)*(j+1)%9), 1+(i+3*turn+j)%8
			}
			if turn == 3 {
				l[0].Max, l[0].E = l[0].T, 0
			}
			f(l)
		}
	}
}

// orders hands on a list in each order, with where each one stood.
func orders(n int, f func(places []int)) {
	var lay func(places []int)
	lay = func(places []int) {
		if len(places) == n {
			f(places)
			return
		}
		for i := range n {
			if !slices.Contains(places, i) {
				lay(append(slices.Clone(places), i))
			}
		}
	}
	lay(nil)
}

func checkSprings(t *testing.T, l []api.Spec, want []api.Spr, may bool) {
	t.Helper()
	got, ok := Springs(l...)
	if ok != may || !slices.Equal(got, want) {
		t.Fatalf("Springs(%v): %v %v, not %v %v", l, got, ok, want, may)
	}
}

func checkTarget(t *testing.T, l []api.Spec, want []api.Fix, e api.Errno) {
	t.Helper()
	got, err := Target(l...)
	if err != e || !slices.Equal(got, want) {
		t.Fatalf("Target(%v): %v %d, not %v %d", l, got, err, want, e)
	}
}

func checkBound(t *testing.T, l []api.Fix, r, want int) {
	t.Helper()
	if got := Bound(l, r); got != want {
		t.Fatalf("Bound(%v, %d): %d, not %d", l, r, got, want)
	}
}

// P10.1, P10.2: the chapter's example, told in full.
func TestExample(t *testing.T) {
	l := list(exampleA, exampleB)
	checkSprings(t, l, []api.Spr{{U: 838861, Min: 209716, E: 1}, {U: 524288, Min: 209716, E: 1}}, true)
	checkTarget(t, l, []api.Fix{{S: exampleA, P: 7}, {S: exampleB, P: 13}}, api.OK)
}

// P10.1: springs that are ordinary, and those at the edges, each told in full.
func TestSpringsAsWritten(t *testing.T) {
	for _, c := range []struct {
		l    []api.Spec
		want []api.Spr
	}{
		// no tasks, one, and 4
		{nil, nil}, {list(), nil}, {list(exampleA), []api.Spr{{U: 838861, Min: 209716, E: 1}}}, {list(of(2, 10, 20, 1, 2, 3)), []api.Spr{{U: 104858, Min: 52429, E: 3}}},
		{list(of(2, 4, 20, 1, 1, 8), exampleB, firm(3, 4, 1, 1), exampleA), []api.Spr{{U: 524288, Min: 104858, E: 8}, {U: 524288, Min: 209716, E: 1}, {U: 786432, Min: 786432}, {U: 838861, Min: 209716, E: 1}}},
		// one that is not elastic has its U at the least, and so has one whose periods are one
		{list(firm(3, 17, 2, 5)), []api.Spr{{U: 74018, Min: 74018}}}, {list(of(3, 17, 17, 2, 5, 4)), []api.Spr{{U: 74018, Min: 74018, E: 4}}},
		// the most and the fewest units, and one that is both
		{list(firm(1, 1, 1, 1), of(6, 6, 6, 6, 6, 8)), []api.Spr{{U: 1048576, Min: 1048576}, {U: 1048576, Min: 1048576, E: 8}}}, {list(of(1, 48, 48, 1, 6, 1)), []api.Spr{{U: 3641, Min: 3641, E: 1}}}, {list(of(1, 1, 48, 1, 1, 1)), []api.Spr{{U: 1048576, Min: 21846, E: 1}}},
		// those for which there is no room, and those that do not pass, are springs still
		{times(4, of(6, 6, 20, 1, 1, 1)), slices.Repeat([]api.Spr{{U: 1048576, Min: 314573, E: 1}}, 4)}, {times(2, firm(1, 1, 1, 6)), []api.Spr{{U: 174763, Min: 174763}, {U: 174763, Min: 174763}}},
	} {
		checkSprings(t, c.l, c.want, true)
	}
}

// P10.1: the spring of every description but for E, held against the document's words.
func TestSpringsOfOne(t *testing.T) {
	eachSpec(func(s api.Spec) {
		checkSprings(t, list(s), []api.Spr{refSpring(s)}, true)
	})
	for e := range 9 {
		s := of(5, 31, 31, 4, 5, e)
		checkSprings(t, list(s), []api.Spr{{U: 135301, Min: 135301, E: e}}, true)
	}
}

// P10.1: lists of one to 5, held against the document's words, in order.
func TestSpringsByTheirMeaning(t *testing.T) {
	drawn(5000, func(l []api.Spec) {
		want, may := refSprings(l)
		checkSprings(t, l, want, may)
	})
}

// P10.2: targets that are ordinary, and those at the edges, each told in full.
func TestTargetAsWritten(t *testing.T) {
	for _, c := range []struct {
		l       []api.Spec
		periods []int
	}{
		// no tasks, one, and 4
		{nil, nil}, {list(), nil}, {list(exampleA), []int{5}}, {list(exampleB), []int{8}}, {times(4, of(2, 10, 20, 1, 2, 3)), []int{10, 10, 10, 10}},
		// all have room at their least periods, of two, 3 and 4 tasks
		{list(of(1, 32, 46, 1, 3, 7), of(4, 35, 35, 1, 2, 6)), []int{32, 35}}, {list(of(1, 9, 42, 1, 2, 2), of(3, 21, 35, 6, 6, 5), of(4, 8, 32, 1, 1, 5)), []int{9, 21, 8}}, {list(of(2, 35, 36, 1, 5, 4), of(1, 6, 14, 3, 3, 1), of(2, 8, 18, 4, 4, 5), of(2, 5, 12, 4, 5, 6)), []int{35, 6, 8, 5}},
		// and just have it, with 983040 units
		{list(of(3, 4, 48, 1, 1, 1), of(3, 16, 48, 1, 1, 1)), []int{4, 16}}, {list(of(2, 2, 35, 3, 4, 2), of(6, 32, 39, 1, 1, 3)), []int{2, 32}}, {list(of(6, 8, 25, 2, 2, 5), firm(2, 16, 1, 1), of(2, 16, 34, 1, 2, 6)), []int{8, 16, 16}}, {list(of(1, 8, 33, 1, 1, 7), of(1, 4, 15, 3, 3, 3), of(1, 8, 35, 1, 2, 1), of(1, 1, 23, 3, 6, 4)), []int{8, 4, 8, 1}},
		// with one unit more they are pressed: all of them that are elastic
		{list(of(3, 28, 48, 3, 4, 1), of(6, 7, 48, 2, 2, 1)), []int{29, 8}}, {list(firm(3, 28, 3, 4), of(6, 7, 48, 2, 2, 3)), []int{28, 8}}, {list(of(5, 6, 48, 5, 5, 8), of(2, 16, 48, 5, 6, 1)), []int{7, 17}}, {list(of(5, 12, 48, 1, 1, 3), firm(5, 8, 5, 6)), []int{13, 8}},
		// pressed, by how elastic each is: alone, alike, and otherwise
		{list(of(1, 1, 2, 1, 1, 1)), []int{2}}, {list(of(6, 6, 7, 6, 6, 8)), []int{7}}, {list(of(2, 2, 15, 1, 1, 6)), []int{3}}, {times(3, of(2, 4, 20, 1, 1, 1)), []int{7, 7, 7}},
		{list(of(2, 4, 20, 1, 1, 1), of(2, 4, 20, 1, 1, 2), of(2, 4, 20, 1, 1, 4)), []int{5, 6, 12}}, {list(of(5, 10, 48, 1, 1, 1), of(5, 10, 48, 1, 1, 8)), []int{11, 12}},
		// pressed so far that some are at their greatest periods, and the others give more
		{list(of(2, 4, 20, 1, 1, 1), of(2, 4, 20, 1, 1, 2), of(2, 4, 20, 1, 1, 4), of(2, 4, 20, 1, 1, 8)), []int{5, 7, 17, 20}}, {list(of(6, 6, 16, 1, 1, 2), of(2, 40, 48, 2, 3, 4)), []int{7, 48}}, {list(of(2, 2, 6, 1, 1, 4), of(6, 15, 31, 2, 2, 2), of(5, 8, 18, 1, 1, 8)), []int{5, 31, 18}},
		// pressed to where all are at their greatest periods: with room left, and with none
		{times(4, of(6, 6, 26, 1, 1, 1)), []int{26, 26, 26, 26}}, {list(of(3, 3, 4, 1, 1, 1), of(3, 3, 16, 1, 1, 1)), []int{4, 16}}, {list(of(3, 3, 16, 1, 1, 1), of(3, 3, 4, 1, 1, 7)), []int{16, 4}},
		// by one unit more to have, or one fewer, these would be at other periods
		{list(of(1, 3, 6, 1, 2, 8), of(5, 6, 40, 5, 5, 4)), []int{5, 7}}, {list(of(4, 6, 48, 1, 4, 6), of(5, 6, 17, 3, 3, 3)), []int{9, 7}}, {list(of(1, 8, 36, 2, 2, 5), of(6, 6, 30, 2, 2, 5)), []int{32, 7}}, {list(of(1, 2, 6, 3, 3, 7), of(4, 7, 48, 1, 1, 8)), []int{3, 8}},
		{list(of(4, 16, 30, 4, 5, 2), of(6, 8, 16, 6, 6, 1), of(3, 8, 30, 1, 2, 3)), []int{25, 9, 18}}, {list(of(3, 48, 48, 1, 1, 2), firm(3, 4, 6, 6), of(1, 4, 9, 1, 1, 4)), []int{48, 4, 8}}, {list(of(5, 20, 30, 3, 4, 2), of(3, 12, 20, 6, 6, 3), of(1, 4, 28, 3, 4, 6), of(2, 3, 24, 2, 2, 6)), []int{26, 17, 13, 4}}, {list(of(4, 4, 11, 2, 2, 4), of(3, 5, 30, 6, 6, 5), of(6, 11, 20, 2, 6, 3), of(3, 4, 10, 1, 4, 1)), []int{7, 24, 20, 9}},
		// tasks that are not elastic, alone, at 983040 units, and beside elastic ones, which give all
		{list(firm(3, 17, 2, 5)), []int{17}}, {list(firm(3, 4, 1, 1), firm(3, 16, 1, 1)), []int{4, 16}}, {list(firm(1, 2, 1, 1), firm(1, 4, 1, 1), firm(1, 8, 1, 1), firm(1, 16, 1, 1)), []int{2, 4, 8, 16}},
		{list(firm(3, 4, 1, 1), of(3, 3, 48, 1, 1, 1)), []int{4, 16}}, {list(firm(3, 4, 1, 1), of(3, 3, 16, 1, 1, 1)), []int{4, 16}}, {list(firm(5, 10, 1, 1), of(5, 10, 48, 1, 1, 1)), []int{10, 12}}, {list(firm(5, 10, 1, 1), of(5, 10, 12, 1, 1, 1)), []int{10, 12}}, {list(firm(1, 2, 1, 1), of(1, 1, 4, 1, 1, 2), firm(1, 8, 1, 1), of(1, 1, 16, 1, 1, 5)), []int{2, 4, 8, 16}},
		// not all jobs are mandatory, and no stretch is too short
		{list(of(3, 3, 9, 1, 2, 1), of(2, 8, 9, 1, 2, 1)), []int{3, 8}}, {list(of(1, 1, 2, 5, 6, 2), of(6, 6, 48, 5, 6, 3)), []int{2, 13}}, {list(of(1, 1, 48, 1, 6, 8)), []int{1}}, {list(of(3, 3, 44, 1, 1, 5), of(4, 6, 17, 1, 3, 5), of(3, 9, 43, 2, 2, 1)), []int{5, 17, 12}},
	} {
		checkTarget(t, c.l, at(c.l, c.periods...), api.OK)
	}
}

// P10.2: what is refused, each told in full.
func TestTargetRefused(t *testing.T) {
	for _, c := range []struct {
		l []api.Spec
		e api.Errno
	}{
		// more than 4, whatever they are
		{times(5, of(1, 48, 48, 1, 6, 1)), api.ErrFull}, {times(5, firm(1, 1, 1, 1)), api.ErrFull}, {times(5, api.Spec{}), api.ErrFull}, {times(1000, exampleA), api.ErrFull}, {times(5, firm(1, 1, 1, 6)), api.ErrFull},
		// one that may not be, also beside those for which there is no room, and those that do not pass
		{list(api.Spec{}), api.ErrArg}, {list(exampleA, api.Spec{}), api.ErrArg}, {list(firm(1, 1, 1, 1), api.Spec{}), api.ErrArg}, {list(api.Spec{}, firm(1, 1, 1, 1), firm(1, 1, 1, 1)), api.ErrArg}, {list(firm(1, 1, 1, 6), firm(1, 1, 1, 6), api.Spec{}), api.ErrArg},
		// no room, as these are not elastic, or can give no more
		{list(firm(1, 1, 1, 1)), api.ErrLoad}, {list(of(1, 1, 1, 1, 1, 5)), api.ErrLoad}, {list(of(6, 6, 6, 6, 6, 8)), api.ErrLoad}, {list(firm(3, 4, 1, 1), firm(2, 10, 1, 1)), api.ErrLoad}, {times(4, of(6, 6, 20, 1, 1, 1)), api.ErrLoad}, {times(4, of(6, 6, 25, 1, 1, 1)), api.ErrLoad}, {list(firm(5, 10, 1, 1), of(5, 10, 11, 1, 1, 1)), api.ErrLoad}, {list(of(3, 3, 4, 1, 1, 1), of(3, 3, 15, 1, 1, 1)), api.ErrLoad}, {list(firm(3, 4, 1, 1), of(3, 3, 15, 1, 1, 8)), api.ErrLoad},
		// no room for one unit more, as each is rounded up, though the quotients would be just the load
		{list(firm(1, 1, 5, 6), firm(6, 48, 5, 6)), api.ErrLoad}, {list(firm(1, 1, 5, 6), of(6, 6, 48, 5, 6, 3)), api.ErrLoad}, {list(of(1, 1, 2, 5, 6, 2), of(4, 5, 8, 5, 6, 3), firm(6, 48, 5, 6)), api.ErrLoad},
		// no room, though they would not pass either
		{times(4, firm(1, 1, 2, 6)), api.ErrLoad}, {list(firm(1, 1, 1, 2), firm(1, 1, 1, 2)), api.ErrLoad},
		// room, and some stretch is too short, of tasks that are not elastic
		{list(firm(3, 3, 1, 2), firm(2, 4, 1, 2)), api.ErrBound}, {times(2, firm(1, 1, 1, 6)), api.ErrBound},
		// of elastic ones at their least periods, though at others they would pass
		{list(of(3, 3, 9, 1, 2, 1), of(2, 4, 9, 1, 2, 1)), api.ErrBound}, {times(4, of(1, 1, 48, 1, 6, 8)), api.ErrBound}, {list(firm(5, 6, 2, 5), of(2, 4, 37, 2, 4, 3)), api.ErrBound}, {list(of(3, 8, 23, 1, 2, 7), of(6, 8, 19, 1, 1, 8)), api.ErrBound},
		// and of such that are pressed, though at their greatest periods they would pass
		{list(of(5, 12, 39, 3, 4, 8), firm(4, 6, 2, 2)), api.ErrBound}, {list(of(4, 14, 14, 5, 6, 3), of(5, 5, 38, 4, 5, 6)), api.ErrBound}, {list(of(6, 12, 19, 2, 2, 4), of(4, 6, 27, 1, 2, 8), of(5, 7, 48, 1, 4, 7)), api.ErrBound}, {list(of(5, 7, 21, 2, 3, 3), of(4, 32, 43, 2, 2, 8), of(4, 6, 32, 1, 6, 3), of(6, 8, 39, 4, 5, 1)), api.ErrBound},
		// if there was one unit fewer to have, the first one would pass, at a longer period, and there would be no room for the second
		{list(of(5, 15, 24, 1, 1, 1), firm(3, 4, 5, 6)), api.ErrBound}, {list(firm(6, 8, 1, 1), of(6, 6, 8, 1, 4, 6)), api.ErrBound},
	} {
		checkTarget(t, c.l, nil, c.e)
	}
}

// P10.2: those that are refused for a stretch would pass at their greatest periods: the least ones that have room are held to all the same.
func TestTargetTriesNoOther(t *testing.T) {
	for _, l := range [][]api.Spec{
		list(of(3, 3, 9, 1, 2, 1), of(2, 4, 9, 1, 2, 1)), list(of(3, 8, 23, 1, 2, 7), of(6, 8, 19, 1, 1, 8)), list(of(5, 12, 39, 3, 4, 8), firm(4, 6, 2, 2)),
	} {
		var wide []api.Fix
		for _, s := range l {
			wide = append(wide, api.Fix{S: s, P: s.Max})
		}
		if !demand.Test(wide) {
			t.Errorf("%v does not pass", wide)
		}
		checkTarget(t, l, nil, api.ErrBound)
	}
}

// P10.2: one task alone, of many descriptions, held against the document's words.
func TestTargetOfOne(t *testing.T) {
	turn := 0
	var kinds [9]int
	eachSpec(func(s api.Spec) {
		turn++
		if turn%11 != 0 && refAt(s, s.T) <= load {
			return
		}
		want, e := refTarget(list(s))
		checkTarget(t, list(s), want, e)
		kinds[e]++
	})
	if kinds[api.OK] < 5000 || kinds[api.ErrLoad] < 30 || kinds[api.ErrBound] != 0 {
		t.Errorf("%v", kinds)
	}
}

// P10.2: lists of one to 5, held against the document's words; enough of each kind are among them.
func TestTargetByItsMeaning(t *testing.T) {
	var pressed, roomy [6][9]int
	drawn(12000, func(l []api.Spec) {
		want, e := refTarget(l)
		checkTarget(t, l, want, e)
		if springs, _ := refSprings(l); refTops(springs) > load {
			pressed[len(l)][e]++
		} else {
			roomy[len(l)][e]++
		}
	})
	for n := 2; n <= 4; n++ {
		for _, e := range []api.Errno{api.OK, api.ErrLoad, api.ErrBound} {
			if pressed[n][e] < 30 {
				t.Errorf("of %d, pressed: %d of %d", n, pressed[n][e], e)
			}
		}
		if roomy[n][api.OK] < 30 || roomy[n][api.ErrBound] < 30 {
			t.Errorf("of %d, with room: %v", n, roomy[n])
		}
	}
	if roomy[5][api.ErrFull] < 1000 {
		t.Errorf("of 5: %v", roomy[5])
	}
}

// P10.2: lists whose least periods need just the load, and one unit more, held against the document's words.
func TestTargetAroundTheLoad(t *testing.T) {
	for _, sum := range []int{load, load + 1} {
		seen, above := 0, 0
		near(sum, func(l []api.Spec) {
			want, e := refTarget(l)
			checkTarget(t, l, want, e)
			seen++
			if e == api.OK && want[1].P > l[1].T {
				above++
			}
		})
		if seen < 8 || (above > 0) != (sum > load) {
			t.Errorf("%d: %d, of which %d are pressed", sum, seen, above)
		}
	}
}

// P10.2: there is room for tasks that are not elastic if they need just the load, and none if they need one unit more.
func TestTargetOfFirmOnesAroundTheLoad(t *testing.T) {
	for _, sum := range []int{load, load + 1} {
		seen := 0
		near(sum, func(l []api.Spec) {
			for i, s := range l {
				l[i] = firm(s.C, s.T, s.M, s.K)
			}
			seen++
			want, e := refTarget(l)
			if (e == api.ErrLoad) != (sum > load) {
				t.Fatalf("%v: %d", l, e)
			}
			checkTarget(t, l, want, e)
		})
		if seen < 8 {
			t.Errorf("%d: %d", sum, seen)
		}
	}
}

// P10.1, P10.2: the same tasks in another order have the same springs and periods, in that order.
func TestOrder(t *testing.T) {
	back := list(exampleB, exampleA)
	checkTarget(t, back, at(back, 13, 7), api.OK)
	drawn(700, func(l []api.Spec) {
		springs, may := Springs(l...)
		fixes, e := Target(l...)
		if len(l) > 4 {
			return
		}
		orders(len(l), func(places []int) {
			var other []api.Spec
			var otherSprings []api.Spr
			var otherFixes []api.Fix
			for _, i := range places {
				other, otherSprings = append(other, l[i]), append(otherSprings, springs[i])
				if e == api.OK {
					otherFixes = append(otherFixes, fixes[i])
				}
			}
			checkSprings(t, other, otherSprings, may)
			checkTarget(t, other, otherFixes, e)
		})
	})
}

// P10.1, P10.2: one that may not be, alone, first, last and among others that may, with room and without.
func TestWrongTasks(t *testing.T) {
	for _, s := range bad {
		for n := 1; n <= 4; n++ {
			checkSprings(t, times(n, s), nil, false)
			checkTarget(t, times(n, s), nil, api.ErrArg)
		}
		for _, other := range []api.Spec{of(1, 48, 48, 1, 6, 1), exampleA, firm(1, 1, 1, 1), firm(1, 1, 1, 6)} {
			for n := 1; n <= 3; n++ {
				for i := 0; i <= n; i++ {
					l := slices.Insert(times(n, other), i, s)
					checkSprings(t, l, nil, false)
					checkTarget(t, l, nil, api.ErrArg)
				}
			}
			for i := range 5 {
				l := slices.Insert(times(4, other), i, s)
				checkSprings(t, l, nil, false)
				checkTarget(t, l, nil, api.ErrFull)
			}
		}
	}
}

// P10.1, P10.2: every description near to those that may be is told apart from these.
func TestWhichMayBe(t *testing.T) {
	bump := []func(s *api.Spec, n int){
		func(s *api.Spec, n int) { s.C += n }, func(s *api.Spec, n int) { s.T += n }, func(s *api.Spec, n int) { s.Max += n },
		func(s *api.Spec, n int) { s.M += n }, func(s *api.Spec, n int) { s.K += n }, func(s *api.Spec, n int) { s.E += n },
	}
	for _, s := range good {
		for _, move := range bump {
			for n := -9; n <= 9; n++ {
				other := s
				move(&other, n)
				want, may := refSprings(list(other))
				checkSprings(t, list(other), want, may)
				fixes, e := refTarget(list(other))
				checkTarget(t, list(other), fixes, e)
			}
		}
	}
}

// P10.1, P10.2: lists that are too long, of ones that may be and of ones that may not; what stands behind a list's end is nothing.
func TestLongLists(t *testing.T) {
	small := of(1, 48, 48, 1, 6, 1)
	for _, n := range []int{5, 6, 7, 8, 100, 1000, 1001, 100000} {
		for _, s := range []api.Spec{small, {}, exampleA} {
			checkSprings(t, times(n, s), nil, false)
			checkTarget(t, times(n, s), nil, api.ErrFull)
		}
		l := times(n, small)[:4]
		checkSprings(t, l, slices.Repeat([]api.Spr{{U: 3641, Min: 3641, E: 1}}, 4), true)
		checkTarget(t, l, at(l, 48, 48, 48, 48), api.OK)
	}
}

// P10.1, P10.2: without tasks there are no springs and no periods, and nothing is wrong, however nothing is handed in.
func TestNoTasks(t *testing.T) {
	for _, l := range [][]api.Spec{nil, {}, make([]api.Spec, 0, 3)} {
		checkSprings(t, l, nil, true)
		checkTarget(t, l, nil, api.OK)
	}
	if springs, ok := Springs(); len(springs) != 0 || !ok {
		t.Errorf("%v %v", springs, ok)
	}
	if fixes, e := Target(); len(fixes) != 0 || e != api.OK {
		t.Errorf("%v %d", fixes, e)
	}
}

// P10.3: bounds that are ordinary, and those at the edges, each told in full.
func TestBoundAsWritten(t *testing.T) {
	example := at(list(exampleA, exampleB), 7, 13)
	one, six, short := firm(1, 48, 1, 6), firm(6, 48, 1, 1), list(firm(3, 3, 1, 2), firm(2, 4, 1, 2))
	for _, c := range []struct {
		l       []api.Fix
		r, want int
	}{
		// no tasks
		{nil, 0, 1}, {[]api.Fix{}, 0, 1}, {nil, 1, 17}, {nil, 5, 81}, {nil, left, 16777217},
		// the example's, at r of 0, of some, of 2^20, one fewer, and one more
		{example, 0, 257}, {example, 1, 273}, {example, 3, 305}, {example, left - 1, 16777457}, {example, left, 16777473}, {example, left + 1, 0},
		// one task, and 4, the shortest and the longest
		{at(list(one), 48), 0, 33}, {at(times(4, one), 48, 48, 48, 48), 0, 129}, {at(list(six), 48), 0, 193}, {at(times(4, six), 48, 48, 48, 48), 0, 769}, {at(times(4, six), 48, 48, 48, 48), 24, 1153}, {at(times(4, six), 48, 48, 48, 48), left, 16777985},
		// at other periods it is the same
		{at(list(exampleA), 5), 7, 241}, {at(list(exampleA), 13), 7, 241}, {at(list(exampleA), 20), 7, 241},
		// one that has just room, and one that does not pass, may be, and has its bound
		{at(list(firm(3, 4, 1, 1), firm(3, 16, 1, 1)), 4, 16), 2, 225}, {at(short, 3, 4), 0, 161}, {at(short, 3, 4), 9, 305}, {at(times(2, firm(1, 1, 1, 6)), 1, 1), 0, 65},
		// r below 0, and far beyond 2^20
		{nil, -1, 0}, {nil, left + 1, 0}, {example, -1, 0}, {example, -3, 0}, {example, -16, 0}, {example, -17, 0}, {example, math.MinInt, 0}, {example, 1 << 21, 0}, {example, 1<<32 + 3, 0}, {example, 1 << 40, 0}, {example, 1 << 44, 0}, {example, 1 << 62, 0}, {example, math.MaxInt, 0}, {nil, math.MinInt, 0}, {nil, math.MaxInt, 0},
		// lists that may not be: no fix, no period, too much, too much by rounding alone, and too many
		{make([]api.Fix, 1), 0, 0}, {make([]api.Fix, 4), 3, 0}, {[]api.Fix{{S: exampleA}}, 3, 0}, {[]api.Fix{{P: 7}}, 3, 0}, {at(list(exampleA), 4), 3, 0}, {at(list(exampleA), 21), 3, 0}, {at(list(exampleA, exampleB), 5, 8), 3, 0}, {at(list(exampleA, exampleB), 7, 7), 3, 0}, {at(list(exampleA, exampleB), 13, 7), 3, 0}, {at(list(firm(1, 1, 1, 1)), 1), 0, 0}, {at(list(firm(1, 1, 5, 6), firm(6, 48, 5, 6)), 1, 48), 0, 0}, {at(times(5, one), 48, 48, 48, 48, 48), 0, 0}, {slices.Repeat(at(list(one), 48), 1000), 5, 0}, {slices.Repeat(at(list(one), 48), 1001), 5, 0},
		// and these beside an r that is wrong
		{make([]api.Fix, 1), -1, 0}, {make([]api.Fix, 5), left + 1, 0},
	} {
		checkBound(t, c.l, c.r, c.want)
	}
}

// rests are what may be left to do, and what may not.
var rests = []int{math.MinInt, -1 << 40, -2, -1, 0, 1, 2, 6, 24, 100, 65535, 65536, 1 << 19, left - 1, left, left + 1, 1 << 32, 1 << 62, math.MaxInt}

// P10.3: lists of one to 5, at all kinds of periods, held against the chapter's words; enough of them may be.
func TestBoundByItsMeaning(t *testing.T) {
	told, none := 0, 0
	drawn(4000, func(l []api.Spec) {
		for _, period := range []func(s api.Spec) int{
			func(s api.Spec) int { return s.T }, func(s api.Spec) int { return s.Max }, func(s api.Spec) int { return (s.T + s.Max) / 2 }, func(s api.Spec) int { return s.T - 1 }, func(s api.Spec) int { return s.Max + 1 },
		} {
			var fixes []api.Fix
			for _, s := range l {
				fixes = append(fixes, api.Fix{S: s, P: period(s)})
			}
			for _, r := range []int{-1, 0, 17, left, left + 1} {
				want := refBound(fixes, r)
				checkBound(t, fixes, r, want)
				if want > 0 {
					told++
				} else {
					none++
				}
			}
		}
	})
	if told < 5000 || none < 5000 {
		t.Errorf("%d, and %d", told, none)
	}
}

// P10.3: a list with one that may not be, or that is not at its period, has no bound, wherever that stands, and whatever r is.
func TestBoundOfWrongLists(t *testing.T) {
	fine := api.Fix{S: firm(1, 48, 1, 6), P: 48}
	var wrong []api.Fix
	for _, s := range bad {
		wrong = append(wrong, api.Fix{S: s, P: s.T}, api.Fix{S: s, P: s.Max}, api.Fix{S: s, P: 10})
	}
	for _, p := range []int{math.MinInt, -5, -1, 0, 1, 4, 21, 48, 256 + 7, 1<<32 + 7, math.MaxInt} {
		wrong = append(wrong, api.Fix{S: exampleA, P: p})
	}
	for _, x := range wrong {
		for n := range 4 {
			for i := 0; i <= n; i++ {
				l := slices.Insert(slices.Repeat([]api.Fix{fine}, n), i, x)
				for _, r := range []int{0, 3, left} {
					checkBound(t, l, r, 0)
				}
			}
		}
	}
	for _, r := range rests {
		checkBound(t, wrong, r, 0)
		checkBound(t, wrong[:1], r, 0)
	}
}

// P10.3: every kind of r, without tasks and with some.
func TestBoundOfEachRest(t *testing.T) {
	for _, l := range [][]api.Fix{nil, {}, at(list(exampleA, exampleB), 7, 13), at(times(4, firm(6, 48, 1, 1)), 48, 48, 48, 48)} {
		for _, r := range rests {
			checkBound(t, l, r, refBound(l, r))
		}
		for r := -300; r <= 3000; r++ {
			checkBound(t, l, r, refBound(l, r))
			checkBound(t, l, left+r, refBound(l, left+r))
		}
	}
}

// P10.4: what is told may be and passes, at the periods' own units and far behind the horizon; periods are from the least to the greatest; where all have room each is the least, and where they have not some are greater.
func TestWhatIsToldPasses(t *testing.T) {
	pressed, roomy := 0, 0
	drawn(6000, func(l []api.Spec) {
		fixes, e := Target(l...)
		if e != api.OK {
			return
		}
		if len(fixes) != len(l) || !demand.May(fixes) || !demand.Test(fixes) || !refPasses(fixes, 24*16+100) {
			t.Fatalf("%v: %v", l, fixes)
		}
		springs, _ := Springs(l...)
		room, longer := refTops(springs) <= load, false
		for i, x := range fixes {
			if x.S != l[i] || x.P < l[i].T || x.P > l[i].Max {
				t.Fatalf("%v: %v", l, fixes)
			}
			longer = longer || x.P > l[i].T
		}
		if longer == room {
			t.Fatalf("%v: %v", l, fixes)
		}
		if room {
			roomy++
		} else {
			pressed++
		}
	})
	if pressed < 500 || roomy < 500 {
		t.Errorf("%d are pressed, %d have room", pressed, roomy)
	}
}

// P10.4: tasks of which all jobs are mandatory are told just if there is room for them.
func TestAllMandatory(t *testing.T) {
	told, none := 0, 0
	drawn(3000, func(l []api.Spec) {
		for i := range l {
			l[i].M = l[i].K
		}
		springs, ok := refSprings(l)
		if !ok {
			return
		}
		_, e := Target(l...)
		if refLeasts(springs) > load {
			none++
			checkTarget(t, l, nil, api.ErrLoad)
			return
		}
		told++
		if e != api.OK {
			t.Fatalf("%v: %d", l, e)
		}
	})
	if told < 500 || none < 200 {
		t.Errorf("%d, and %d", told, none)
	}
}

// P10.1, P10.2, P10.3: what is handed in stays as it was, and the room behind it.
func TestWhatIsHandedInStays(t *testing.T) {
	room := times(8, firm(6, 48, 6, 6))
	l := room[:2:8]
	l[0], l[1] = exampleA, exampleB
	was := slices.Clone(room)
	fixRoom := slices.Repeat(at(list(firm(6, 48, 6, 6)), 48), 8)
	fixes := fixRoom[:2:8]
	copy(fixes, at(l, 7, 13))
	wasFixes := slices.Clone(fixRoom)
	for range 3 {
		checkSprings(t, l, []api.Spr{refSpring(exampleA), refSpring(exampleB)}, true)
		checkTarget(t, l, at(l, 7, 13), api.OK)
		checkBound(t, fixes, 3, 305)
		checkTarget(t, nil, nil, api.OK)
		checkTarget(t, bad, nil, api.ErrFull)
		checkTarget(t, times(2, firm(1, 1, 1, 6)), nil, api.ErrBound)
	}
	if !slices.Equal(room, was) || !slices.Equal(fixRoom, wasFixes) {
		t.Errorf("%v, not %v; %v, not %v", room, was, fixRoom, wasFixes)
	}
}

// P10.1, P10.2: what is told is the caller's own: changes to it, or to what was handed in, change nothing of the other.
func TestWhatIsToldIsTheCallers(t *testing.T) {
	l := list(exampleA, exampleB)
	springs, _ := Springs(l...)
	fixes, _ := Target(l...)
	l[0], l[1] = api.Spec{}, api.Spec{}
	if springs[0] != refSpring(exampleA) || fixes[0] != (api.Fix{S: exampleA, P: 7}) || fixes[1] != (api.Fix{S: exampleB, P: 13}) {
		t.Errorf("%v, %v", springs, fixes)
	}
	l[0], l[1] = exampleA, exampleB
	clear(springs[:cap(springs)])
	clear(fixes[:cap(fixes)])
	checkSprings(t, l, []api.Spr{refSpring(exampleA), refSpring(exampleB)}, true)
	checkTarget(t, l, []api.Fix{{S: exampleA, P: 7}, {S: exampleB, P: 13}}, api.OK)
	if l[0] != exampleA || l[1] != exampleB {
		t.Errorf("%v", l)
	}
}
