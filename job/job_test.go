package job

import (
	"math"
	"slices"
	"testing"

	"fusee/api"
)

// last and longest are told by their numbers, so that a test fails if one of them is taken for another.
const (
	last    = 1099511627776
	longest = 20
)

// The fates, by their numbers.
const (
	runs   = 0
	done   = 1
	cut    = 2
	missed = 3
)

// words holds which jobs of a window are mandatory: by k, and then by m.
var words = [][]string{
	{"1"},
	{"10", "11"},
	{"100", "110", "111"},
	{"1000", "1010", "1110", "1111"},
	{"10000", "10100", "11010", "11110", "11111"},
	{"100000", "100100", "101010", "110110", "111110", "111111"},
}

// of is a description of six numbers.
func of(c, t, high, m, k, e int) api.Spec {
	return api.Spec{C: c, T: t, Max: high, M: m, K: k, E: e}
}

// good may all be: they stand at the edges and between.
var good = []api.Spec{
	of(2, 10, 20, 1, 2, 3), of(1, 1, 1, 1, 1, 0), of(1, 1, 48, 1, 6, 8), of(6, 6, 6, 6, 6, 0),
	of(6, 47, 48, 5, 6, 7), of(3, 17, 17, 2, 5, 0), of(4, 5, 20, 3, 5, 1), of(5, 48, 48, 1, 3, 8),
}

// bad may none of them be.
var bad = []api.Spec{
	{},
	of(0, 10, 20, 1, 2, 3), of(7, 10, 20, 1, 2, 3), of(3, 2, 20, 1, 2, 3), of(2, 21, 20, 1, 2, 3), of(2, 10, 49, 1, 2, 3),
	of(2, 10, 20, 0, 2, 3), of(2, 10, 20, 3, 2, 3), of(2, 10, 20, 1, 7, 3), of(2, 10, 20, 1, 2, -1), of(2, 10, 20, 1, 2, 9), of(2, 10, 20, 1, 2, 0),
	of(-2, 10, 20, 1, 2, 3), of(2, 10, 20, -1, 2, 3), of(2, 10, 20, 1, -2, 3), of(2, 0, 0, 1, 1, 0), of(2, 10, 20, 0, 0, 3),
	of(math.MaxInt, 10, 20, 1, 2, 3), of(math.MinInt, 10, 20, 1, 2, 3), of(2, math.MinInt, 20, 1, 2, 3), of(2, 10, math.MaxInt, 1, 2, 3),
	of(2, 10, 20, math.MinInt, 2, 3), of(2, 10, 20, 1, math.MaxInt, 3), of(2, 10, 20, 1, 2, math.MinInt), of(2, 10, 20, 1, 2, math.MaxInt),
}

// near are numbers at the edges of all fields, and far beyond them.
var near = []int{
	math.MinInt, math.MinInt + 1, -last - 1, -last, -1 << 32, -20, -2, -1, 0, 1, 2, 3, 4, 5, 6, 7, 10, 15, 19, 20, 21, 22,
	1 << 31, 1 << 32, last - 1, last, last + 1, last + 2, 2 * last, 1 << 62, math.MaxInt - 1, math.MaxInt,
}

// The references below say by the document's words what is so, without the layers below.

func refSpec(s api.Spec) bool {
	return s.C >= 1 && s.C <= 6 && s.C <= s.T && s.T <= s.Max && s.Max <= 48 &&
		s.M >= 1 && s.M <= s.K && s.K <= 6 && s.E >= 0 && s.E <= 8 && (s.E != 0 || s.T == s.Max)
}

// refMand tells whether a job is mandatory, of a description that may be, and a number that may be.
func refMand(s api.Spec, n int) bool { return words[s.K-1][s.M-1][n%s.K] == '1' }

func refMay(s api.Spec, j api.Job) bool {
	if !refSpec(s) {
		return false
	}
	if !j.On {
		return j.J == 0 && j.Rel == 0 && j.Due == 0 && !j.Mand && j.C == 0 && j.D == 0 && j.Ran == 0
	}
	return j.J >= 0 && j.J <= last && j.Rel >= 0 && j.Rel < j.Due && j.Due <= last && j.Mand == refMand(s, j.J) &&
		j.C == s.C && j.D >= 1 && j.D <= longest && j.Ran >= 0 && j.Ran < j.C && j.Ran < j.D
}

func refNew(s api.Spec, n, rel, due, d int) (api.Job, bool) {
	j := api.Job{On: true, J: n, Rel: rel, Due: due, C: s.C, D: d}
	if refSpec(s) && n >= 0 && n <= last {
		j.Mand = refMand(s, n)
	}
	if !refMay(s, j) {
		return api.Job{}, false
	}
	return j, true
}

// apart tells whether a less b is a number of 64 bits: of others the document says nothing.
func apart(a, b int) bool {
	if b < 0 {
		return a <= math.MaxInt+b
	}
	return a >= math.MinInt+b
}

func refWorst(j api.Job) int {
	if j.On && j.Ran < j.C {
		return j.C - j.Ran
	}
	return 0
}

func refLeft(j api.Job) int {
	a, b := refWorst(j), j.D-j.Ran
	if a <= 0 || b <= 0 {
		return 0
	}
	return min(a, b)
}

func refStep(j api.Job) (api.Job, int) {
	if !j.On {
		return api.Job{}, missed
	}
	j.Ran = j.Ran + 1
	if j.Ran >= j.D {
		return api.Job{}, done
	}
	if j.Ran >= j.C {
		return api.Job{}, cut
	}
	return j, runs
}

func refAt(j api.Job, now int) (api.Job, int) {
	if !j.On || now < j.Due {
		return j, runs
	}
	return api.Job{}, missed
}

// fields are a job's numbers, each to be set by itself.
func fields(j *api.Job) []*int { return []*int{&j.J, &j.Rel, &j.Due, &j.C, &j.D, &j.Ran} }

// bases are jobs that may be, each of one of the good ones, which stands beside it.
func bases() ([]api.Spec, []api.Job) {
	var specs []api.Spec
	var jobs []api.Job
	for _, s := range good {
		for _, n := range []int{0, 1, 2, 3, last - 1, last} {
			for _, d := range []int{1, s.C, s.C + 1, longest} {
				for ran := range min(s.C, d) {
					specs = append(specs, s)
					jobs = append(jobs, api.Job{On: true, J: n, Rel: 5, Due: 15, Mand: refMand(s, n), C: s.C, D: d, Ran: ran})
				}
			}
		}
	}
	return specs, jobs
}

// holds fails if a job is told otherwise than by the words, by any call but New.
func holds(t *testing.T, j api.Job) {
	t.Helper()
	if apart(j.C, j.Ran) && Worst(j) != refWorst(j) {
		t.Errorf("Worst(%+v): %d, not %d", j, Worst(j), refWorst(j))
	}
	if apart(j.C, j.Ran) && apart(j.D, j.Ran) && Left(j) != refLeft(j) {
		t.Errorf("Left(%+v): %d, not %d", j, Left(j), refLeft(j))
	}
	if Left(j) < 0 {
		t.Errorf("Left(%+v): %d", j, Left(j))
	}
	got, f := Step(j)
	want, g := refStep(j)
	if (!j.On || j.Ran != math.MaxInt) && (got != want || f != g) {
		t.Errorf("Step(%+v): %+v %d, not %+v %d", j, got, f, want, g)
	}
	if f < runs || f > missed || f != runs && got != (api.Job{}) {
		t.Errorf("Step(%+v): %+v %d", j, got, f)
	}
}

// holdsAt fails if a job at a time is told otherwise than by the words.
func holdsAt(t *testing.T, j api.Job, now int) {
	t.Helper()
	got, f := At(j, now)
	if want, g := refAt(j, now); got != want || f != g {
		t.Errorf("At(%+v, %d): %+v %d, not %+v %d", j, now, got, f, want, g)
	}
}

// mayAs fails if a job may be, or not, otherwise than by the words.
func mayAs(t *testing.T, s api.Spec, j api.Job) {
	t.Helper()
	if May(s, j) != refMay(s, j) {
		t.Errorf("May(%+v, %+v): %v", s, j, May(s, j))
	}
}

// newAs fails if a new job is another one than by the words, and tells whether there is one.
func newAs(t *testing.T, s api.Spec, n, rel, due, d int) bool {
	t.Helper()
	j, ok := New(s, n, rel, due, d)
	if want, yes := refNew(s, n, rel, due, d); j != want || ok != yes {
		t.Errorf("New(%+v, %d, %d, %d, %d): %+v %v, not %+v %v", s, n, rel, due, d, j, ok, want, yes)
	}
	return ok
}

// P11.1 to P11.4: the chapter's example, told in full: C 2, D 3: Runs, and Cut.
func TestExample(t *testing.T) {
	s := of(2, 10, 20, 1, 2, 3)
	j, ok := New(s, 2, 5, 15, 3)
	if j != (api.Job{On: true, J: 2, Rel: 5, Due: 15, Mand: true, C: 2, D: 3}) || !ok || !May(s, j) {
		t.Fatalf("New: %+v %v", j, ok)
	}
	if Worst(j) != 2 || Left(j) != 2 {
		t.Errorf("at first: %d %d", Worst(j), Left(j))
	}
	j, f := Step(j)
	if j != (api.Job{On: true, J: 2, Rel: 5, Due: 15, Mand: true, C: 2, D: 3, Ran: 1}) || f != runs || !May(s, j) {
		t.Fatalf("Step: %+v %d", j, f)
	}
	if Worst(j) != 1 || Left(j) != 1 {
		t.Errorf("behind one: %d %d", Worst(j), Left(j))
	}
	if got, f := At(j, 14); got != j || f != runs {
		t.Errorf("At 14: %+v %d", got, f)
	}
	if got, f := At(j, 15); got != (api.Job{}) || f != missed {
		t.Errorf("At 15: %+v %d", got, f)
	}
	if got, f := Step(j); got != (api.Job{}) || f != cut {
		t.Errorf("Step: %+v %d", got, f)
	}
}

// P11.1: new jobs at the edges, told in full.
func TestNewAsWritten(t *testing.T) {
	s := of(4, 5, 20, 2, 5, 1)
	for _, c := range []struct {
		n, rel, due, d int
		want           api.Job
	}{
		{0, 0, 1, 1, api.Job{On: true, Due: 1, Mand: true, C: 4, D: 1}},
		{1, 0, 1, 1, api.Job{On: true, J: 1, Due: 1, C: 4, D: 1}},
		{2, 7, 8, 4, api.Job{On: true, J: 2, Rel: 7, Due: 8, Mand: true, C: 4, D: 4}},
		{3, 7, 27, 5, api.Job{On: true, J: 3, Rel: 7, Due: 27, C: 4, D: 5}},
		{4, 0, last, 20, api.Job{On: true, J: 4, Due: last, C: 4, D: 20}},
		{7, last - 1, last, 20, api.Job{On: true, J: 7, Rel: last - 1, Due: last, Mand: true, C: 4, D: 20}},
		// 2^40 is one behind five times as many: as job 1
		{last, 3, 9, 3, api.Job{On: true, J: last, Rel: 3, Due: 9, C: 4, D: 3}},
		{last - 1, 3, 9, 3, api.Job{On: true, J: last - 1, Rel: 3, Due: 9, Mand: true, C: 4, D: 3}},
	} {
		if j, ok := New(s, c.n, c.rel, c.due, c.d); j != c.want || !ok {
			t.Errorf("New of %d, %d, %d, %d: %+v %v", c.n, c.rel, c.due, c.d, j, ok)
		}
		if !May(s, c.want) {
			t.Errorf("May(%+v): no", c.want)
		}
	}
}

// P11.1: there is no new job where a number is just beyond its edge.
func TestNoNewJobBeyondTheEdges(t *testing.T) {
	for _, s := range good {
		for _, c := range [][4]int{
			{-1, 5, 15, 2}, {last + 1, 5, 15, 2}, {0, -1, 15, 2}, {0, 15, 15, 2}, {0, 16, 15, 2}, {0, 0, 0, 2}, {0, last, last, 2},
			{0, 5, last + 1, 2}, {0, last, last + 1, 2}, {0, 5, 15, 0}, {0, 5, 15, 21}, {0, 5, 15, -1}, {0, -2, -1, 2}, {0, 5, -15, 2},
		} {
			if j, ok := New(s, c[0], c[1], c[2], c[3]); j != (api.Job{}) || ok {
				t.Errorf("New(%+v, %v): %+v %v", s, c, j, ok)
			}
		}
	}
}

// P11.1: new jobs of numbers near all edges and far beyond them, each by each, held against the words.
func TestNewByItsMeaning(t *testing.T) {
	yes, no := 0, 0
	for _, s := range good {
		for _, n := range near {
			for _, rel := range near {
				for _, due := range near {
					if newAs(t, s, n, rel, due, 2) {
						yes++
					} else {
						no++
					}
				}
			}
			for _, d := range near {
				newAs(t, s, n, 5, 15, d)
				newAs(t, s, 1, n, 15, d)
				newAs(t, s, 1, 5, n, d)
			}
		}
	}
	if yes < 1000 || no < 1000 {
		t.Errorf("%d and %d", yes, no)
	}
}

// P11.1: which new jobs are mandatory, of every M and K: from job 0 on, and up to 2^40.
func TestNewIsMandatoryAsTold(t *testing.T) {
	for k := 1; k <= 6; k++ {
		for m := 1; m <= k; m++ {
			s := of(2, 10, 20, m, k, 3)
			for i := range 70 {
				for _, n := range []int{i, last - i} {
					j, ok := New(s, n, 5, 15, 2)
					if !ok || j.Mand != (words[k-1][m-1][n%k] == '1') || !May(s, j) {
						t.Errorf("%d of %d, %d: %+v %v", m, k, n, j, ok)
					}
					j.Mand = !j.Mand
					if May(s, j) {
						t.Errorf("%d of %d, %d: %+v may be", m, k, n, j)
					}
				}
			}
		}
	}
}

// P11.1: of a description that may not be there is no job, not even a zero one, and no new one.
func TestWrongSpecs(t *testing.T) {
	_, jobs := bases()
	for _, s := range bad {
		if May(s, api.Job{}) {
			t.Errorf("May(%+v) of a zero one", s)
		}
		for _, j := range jobs {
			for _, mand := range []bool{false, true} {
				j.Mand = mand
				own := j
				own.C = s.C
				if May(s, j) || May(s, own) {
					t.Errorf("May(%+v, %+v)", s, j)
				}
			}
		}
		for _, n := range near {
			for _, d := range []int{1, 2, 20, 21} {
				if j, ok := New(s, n, 5, 15, d); j != (api.Job{}) || ok {
					t.Errorf("New(%+v, %d): %+v", s, n, j)
				}
			}
		}
	}
}

// P11.1: a zero job may be of each description that may be; with anything else of it set, but On, it may not.
func TestWithoutOn(t *testing.T) {
	for _, s := range good {
		if !May(s, api.Job{}) {
			t.Errorf("May(%+v) of a zero one: no", s)
		}
		for i := range 6 {
			for _, x := range near {
				var j api.Job
				*fields(&j)[i] = x
				if May(s, j) != (x == 0) {
					t.Errorf("May(%+v, %+v): %v", s, j, May(s, j))
				}
			}
		}
		if May(s, api.Job{Mand: true}) || May(s, api.Job{On: true}) || May(s, api.Job{On: true, Mand: true}) {
			t.Errorf("May(%+v) of one with On, or Mand, alone", s)
		}
	}
	specs, jobs := bases()
	for i, j := range jobs {
		j.On = false
		if May(specs[i], j) {
			t.Errorf("May(%+v, %+v)", specs[i], j)
		}
	}
}

// P11.1: jobs that may be, with one field, and with two of them, near all edges and far beyond them, held against the words.
func TestMayByItsMeaning(t *testing.T) {
	specs, jobs := bases()
	yes := 0
	for n, base := range jobs {
		if !May(specs[n], base) {
			t.Fatalf("May(%+v, %+v): no", specs[n], base)
		}
		for i := range 6 {
			for _, x := range near {
				j := base
				*fields(&j)[i] = x
				mayAs(t, specs[n], j)
				if refMay(specs[n], j) {
					yes++
				}
				j.Mand = !j.Mand
				mayAs(t, specs[n], j)
				if n%7 != 0 {
					continue
				}
				for _, y := range near {
					two := j
					*fields(&two)[(i+1+n%5)%6] = y
					mayAs(t, specs[n], two)
				}
			}
		}
	}
	if yes < 1000 {
		t.Errorf("%d", yes)
	}
}

// P11.1: the edges of a job, told one by one.
func TestMayAtTheEdges(t *testing.T) {
	s := of(6, 10, 20, 6, 6, 3)
	base := api.Job{On: true, J: 3, Rel: 5, Due: 15, Mand: true, C: 6, D: 20, Ran: 1}
	for _, c := range []struct {
		i, n int
		want bool
	}{
		{0, 0, true}, {0, -1, false}, {0, last, true}, {0, last + 1, false},
		{1, 0, true}, {1, -1, false}, {1, 14, true}, {1, 15, false}, {1, 16, false},
		{2, 6, true}, {2, 5, false}, {2, 4, false}, {2, last, true}, {2, last + 1, false},
		{3, 5, false}, {3, 7, false}, {3, 0, false},
		{4, 2, true}, {4, 1, false}, {4, 20, true}, {4, 21, false}, {4, 0, false},
		{5, 0, true}, {5, -1, false}, {5, 5, true}, {5, 6, false}, {5, 7, false},
	} {
		j := base
		*fields(&j)[c.i] = c.n
		if May(s, j) != c.want {
			t.Errorf("May(%+v): %v", j, !c.want)
		}
	}
	// Ran just below D, where D is less than C; D of 1
	for _, c := range []struct {
		d, ran int
		want   bool
	}{{4, 3, true}, {4, 4, false}, {4, 5, false}, {1, 0, true}, {1, 1, false}, {6, 5, true}, {6, 6, false}, {7, 5, true}, {7, 6, false}, {0, 0, false}, {-1, 0, false}} {
		j := base
		j.D, j.Ran = c.d, c.ran
		if May(s, j) != c.want {
			t.Errorf("May(%+v): %v", j, !c.want)
		}
	}
	// a job whose C is not the description's
	j := base
	j.C, j.D = 5, 5
	if May(s, j) || !May(of(5, 10, 20, 6, 6, 3), j) || May(of(4, 10, 20, 6, 6, 3), j) {
		t.Errorf("May(%+v)", j)
	}
}

// P11.2 and P11.3: told in full: D less than C, as much, and more.
func TestStepsAsWritten(t *testing.T) {
	for _, c := range []struct{ c, d, ran, worst, left, f int }{
		{4, 2, 0, 4, 2, runs}, {4, 2, 1, 3, 1, done},
		{4, 4, 0, 4, 4, runs}, {4, 4, 2, 2, 2, runs}, {4, 4, 3, 1, 1, done},
		{4, 6, 0, 4, 4, runs}, {4, 6, 2, 2, 2, runs}, {4, 6, 3, 1, 1, cut},
		{4, 5, 3, 1, 1, cut}, {4, 20, 3, 1, 1, cut}, {1, 1, 0, 1, 1, done}, {1, 2, 0, 1, 1, cut}, {1, 20, 0, 1, 1, cut}, {6, 1, 0, 6, 1, done},
		// of none of these a job may be: it ran as long as it may, or would, or longer
		{4, 6, 4, 0, 0, cut}, {4, 6, 5, 0, 0, done}, {4, 6, 6, 0, 0, done}, {4, 9, 5, 0, 0, cut}, {4, 9, 7, 0, 0, cut}, {4, 9, 8, 0, 0, done}, {4, 4, 4, 0, 0, done},
		{4, 2, 2, 2, 0, done}, {4, 2, 3, 1, 0, done}, {4, 0, 0, 4, 0, done}, {4, -1, 0, 4, 0, done}, {0, 4, 0, 0, 0, cut}, {-2, 4, 0, 0, 0, cut}, {0, 0, 0, 0, 0, done},
		{4, 2, -1, 5, 3, runs}, {-1, 3, -3, 2, 2, runs}, {3, -1, -3, 6, 2, runs}, {-1, 3, -2, 1, 1, cut}, {3, -1, -2, 5, 1, done},
		{math.MaxInt, 3, 0, math.MaxInt, 3, runs}, {math.MaxInt, math.MaxInt, 1, math.MaxInt - 1, math.MaxInt - 1, runs},
		{math.MaxInt, math.MaxInt, math.MaxInt - 1, 1, 1, done}, {3, 3, math.MaxInt - 1, 0, 0, done}, {3, math.MaxInt, math.MaxInt - 2, 0, 0, cut},
		{math.MinInt, 3, 0, 0, 0, cut}, {3, math.MinInt, 0, 3, 0, done}, {math.MinInt, math.MinInt, -1, 0, 0, done}, {0, 0, math.MinInt + 1, math.MaxInt, math.MaxInt, runs},
		{math.MinInt + 1, 3, math.MinInt, 1, 1, cut},
	} {
		for _, mand := range []bool{false, true} {
			j := api.Job{On: true, J: 8, Rel: 5, Due: 15, Mand: mand, C: c.c, D: c.d, Ran: c.ran}
			if Worst(j) != c.worst {
				t.Errorf("Worst(%+v): %d, not %d", j, Worst(j), c.worst)
			}
			if apart(c.d, c.ran) && Left(j) != c.left {
				t.Errorf("Left(%+v): %d, not %d", j, Left(j), c.left)
			}
			want := api.Job{}
			if c.f == runs {
				want = j
				want.Ran++
			}
			if got, f := Step(j); got != want || f != c.f {
				t.Errorf("Step(%+v): %+v %d, not %d", j, got, f, c.f)
			}
			j.On = false
			if Worst(j) != 0 || Left(j) != 0 {
				t.Errorf("without On %+v: %d %d", j, Worst(j), Left(j))
			}
			if got, f := Step(j); got != (api.Job{}) || f != missed {
				t.Errorf("Step(%+v): %+v %d", j, got, f)
			}
		}
	}
}

// P11.2 and P11.3: all of C, D and Ran from below 0 to beyond all limits, held against the words.
func TestStepsByTheirMeaning(t *testing.T) {
	count := [4]int{}
	for c := -3; c <= 9; c++ {
		for d := -3; d <= 23; d++ {
			for ran := -4; ran <= 25; ran++ {
				for _, on := range []bool{false, true} {
					j := api.Job{On: on, J: 3, Rel: 7, Due: 9, Mand: (c+d+ran)%2 == 0, C: c, D: d, Ran: ran}
					holds(t, j)
					_, f := refStep(j)
					count[f]++
				}
			}
		}
	}
	if slices.Min(count[:]) < 300 {
		t.Errorf("%v", count)
	}
}

// P11.3: a job that goes on stays as it was but for Ran, whatever its other fields are: also such as may not be.
func TestStepKeepsTheRest(t *testing.T) {
	for _, x := range near {
		for i := range 3 {
			j := api.Job{On: true, J: 3, Rel: 7, Due: 9, Mand: true, C: 4, D: 5, Ran: 1}
			*fields(&j)[i] = x
			want := j
			want.Ran = 2
			if got, f := Step(j); got != want || f != runs {
				t.Errorf("Step(%+v): %+v %d", j, got, f)
			}
			if Worst(j) != 3 || Left(j) != 3 {
				t.Errorf("%+v: %d %d", j, Worst(j), Left(j))
			}
		}
	}
}

// P11.4: now just ahead of Due, at it, and behind it; jobs of all kinds.
func TestAtTheEdges(t *testing.T) {
	_, jobs := bases()
	for _, due := range []int{1, 2, 15, last - 1, last} {
		for _, j := range jobs {
			j.Rel, j.Due = 0, due
			for _, now := range []int{0, due - 1} {
				if got, f := At(j, now); got != j || f != runs {
					t.Errorf("At(%+v, %d): %+v %d", j, now, got, f)
				}
			}
			for _, now := range []int{due, due + 1, 2 * due, math.MaxInt} {
				if got, f := At(j, now); got != (api.Job{}) || f != missed {
					t.Errorf("At(%+v, %d): %+v %d", j, now, got, f)
				}
			}
			if got, f := At(j, math.MinInt); got != j || f != runs {
				t.Errorf("At(%+v, least): %+v %d", j, got, f)
			}
		}
	}
}

// P11.4: numbers near all edges and far beyond them, in each field and for now; with On and without it.
func TestAtByItsMeaning(t *testing.T) {
	for _, now := range near {
		holdsAt(t, api.Job{}, now)
		holdsAt(t, api.Job{Mand: true}, now)
		for _, x := range near {
			for i := range 6 {
				j := api.Job{On: true, J: 3, Rel: 5, Due: 15, Mand: i%2 == 0, C: 2, D: 2, Ran: 1}
				*fields(&j)[i] = x
				holdsAt(t, j, now)
				j.On = false
				holdsAt(t, j, now)
				j = api.Job{}
				*fields(&j)[i] = x
				holdsAt(t, j, now)
				j.On = true
				holdsAt(t, j, now)
			}
		}
	}
	j := api.Job{J: 3, Rel: 5, Due: 15, C: 2, D: 2, Ran: 1}
	if got, f := At(j, 20); got != j || f != runs {
		t.Errorf("one that is not On: %+v %d", got, f)
	}
}

// P11.2 and P11.3: numbers near all edges and far beyond them, in each field, and in each two, with On and without it.
func TestNumbersFarBeyond(t *testing.T) {
	for i := range 6 {
		for k := range 6 {
			for _, x := range near {
				for _, y := range near {
					j := api.Job{On: true, J: 3, Rel: 5, Due: 15, Mand: i < k, C: 3, D: 4, Ran: 1}
					*fields(&j)[i], *fields(&j)[k] = x, y
					holds(t, j)
					j.On = false
					holds(t, j)
				}
			}
		}
	}
	for _, x := range near {
		for _, s := range good {
			all := api.Job{On: true, J: x, Rel: x, Due: x, Mand: true, C: x, D: x, Ran: x}
			holds(t, all)
			mayAs(t, s, all)
			newAs(t, s, x, x, x, x)
			all.On = false
			holds(t, all)
			mayAs(t, s, all)
		}
	}
}

// ranOf is how often a job runs till it goes on no more, and what becomes of it then; its description's May holds it all the way.
func ranOf(t *testing.T, s api.Spec, j api.Job) (int, int) {
	t.Helper()
	for n := 1; n <= 100; n++ {
		next, f := Step(j)
		if f != runs {
			if next != (api.Job{}) {
				t.Errorf("%+v: %d leaves %+v", j, f, next)
			}
			return n, f
		}
		if !May(s, next) || Left(next) != Left(j)-1 || Worst(next) != Worst(j)-1 {
			t.Errorf("%+v: then %+v, %d and %d", j, next, Left(next), Worst(next))
		}
		j = next
	}
	t.Errorf("%+v goes on", j)
	return 0, 0
}

// P11.5: a job that may be runs just Left times, and is Done just where D is no more than C: for every C and D, and from every Ran on.
func TestJobRunsAsLongAsIsLeft(t *testing.T) {
	for c := 1; c <= 6; c++ {
		s := of(c, 10, 20, 2, 3, 3)
		for d := 1; d <= longest; d++ {
			for n := range 3 {
				j, ok := New(s, n, 5, 15, d)
				if !ok || Left(j) != min(c, d) || Worst(j) != c {
					t.Fatalf("%+v %v: %d %d", j, ok, Left(j), Worst(j))
				}
				for ran := range min(c, d) {
					j.Ran = ran
					times, f := ranOf(t, s, j)
					want := done
					if d > c {
						want = cut
					}
					if times != Left(j) || times != min(c, d)-ran || f != want {
						t.Errorf("%+v: %d times, then %d", j, times, f)
					}
				}
			}
		}
	}
}

// P11.5: a job that is late is missed, however long it would run still, and then there is none to run.
func TestLateJobsRunNoMore(t *testing.T) {
	specs, jobs := bases()
	for i, j := range jobs {
		gone, f := At(j, j.Due)
		if f != missed || !May(specs[i], gone) || Left(gone) != 0 || Worst(gone) != 0 {
			t.Errorf("%+v: %+v %d", j, gone, f)
		}
		if got, f := Step(gone); got != (api.Job{}) || f != missed {
			t.Errorf("Step: %+v %d", got, f)
		}
		if got, f := At(gone, j.Due); got != (api.Job{}) || f != runs {
			t.Errorf("At: %+v %d", got, f)
		}
	}
}

// P1 with R5: what is told hangs on what is asked alone, not on what was asked ahead of it.
func TestAskedAgain(t *testing.T) {
	specs, jobs := bases()
	ask := func(i int) (a, b api.Job, told [6]int) {
		a, told[0] = Step(jobs[i])
		b, told[1] = At(jobs[i], 14)
		told[2], told[3] = Worst(jobs[i]), Left(jobs[i])
		if May(specs[i], jobs[i]) {
			told[4] = 1
		}
		if _, ok := New(specs[i], i, i, i+1, i); ok {
			told[5] = 1
		}
		return a, b, told
	}
	for i := range jobs {
		a, b, told := ask(i)
		ask(len(jobs) - 1 - i)
		if x, y, again := ask(i); x != a || y != b || again != told {
			t.Errorf("%+v: %v, then %v", jobs[i], told, again)
		}
	}
}

// P11.3: the fates are api's.
func TestFates(t *testing.T) {
	if api.Runs != runs || api.Done != done || api.Cut != cut || api.Missed != missed || api.MaxTime != last || api.MaxD != longest {
		t.Error("other numbers")
	}
}
