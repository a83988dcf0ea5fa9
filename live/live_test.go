package live

import (
	"math"
	"slices"
	"testing"

	"fusee/api"
	"fusee/demand"
)

// The limits are told by their numbers, so that a test fails if one of them is taken for another.
const (
	tasks   = 4
	last    = 549755813888
	clock   = 1099511627776
	look    = 2000
	longest = 48
)

// words holds which jobs of a window are mandatory: by k, and then by m.
var words = [][]string{
	{"1"},
	{"10", "11"},
	{"100", "110", "111"},
	{"1000", "1010", "1110", "1111"},
	{"10000", "10100", "11010", "11110", "11111"},
	{"100000", "100100", "101010", "110110", "111110", "111111"},
}

// of is a description of six numbers.
func of(c, t, high, m, k, e int) api.Spec {
	return api.Spec{C: c, T: t, Max: high, M: m, K: k, E: e}
}

// firm is one of one period that is not elastic, whose jobs are all mandatory.
func firm(c, p int) api.Spec { return of(c, p, p, 1, 1, 0) }

// list is tasks in order.
func list(l ...api.Live) []api.Live { return l }

// next is a task without a job, whose next one begins at a time.
func next(s api.Spec, p, at, n int) api.Live {
	return api.Live{S: s, P: p, At: at, N: n}
}

// work is a task with a job ahead of its next one, that ran so long; the description may be, and the number is from 1 on.
func work(s api.Spec, p, rel, at, n, ran int) api.Live {
	x := next(s, p, at, n)
	x.J = api.Job{On: true, J: n - 1, Rel: rel, Due: at, Mand: refMand(s, n-1), C: s.C, D: s.C, Ran: ran}
	return x
}

// one is the chapter's.
var one = of(2, 10, 20, 1, 2, 3)

// good may all be: they stand at the edges and between.
var good = []api.Spec{
	one, of(1, 1, 1, 1, 1, 0), of(1, 1, 48, 1, 6, 8), of(6, 6, 6, 6, 6, 0), of(6, 47, 48, 5, 6, 7), of(3, 17, 17, 2, 5, 0), of(4, 5, 20, 3, 5, 1), of(5, 48, 48, 1, 3, 8),
}

// bad may none of them be.
var bad = []api.Spec{
	{},
	of(0, 10, 20, 1, 2, 3), of(7, 10, 20, 1, 2, 3), of(3, 2, 20, 1, 2, 3), of(2, 21, 20, 1, 2, 3), of(2, 10, 49, 1, 2, 3),
	of(2, 10, 20, 0, 2, 3), of(2, 10, 20, 3, 2, 3), of(2, 10, 20, 1, 7, 3), of(2, 10, 20, 1, 2, -1), of(2, 10, 20, 1, 2, 9), of(2, 10, 20, 1, 2, 0),
	of(-2, 10, 20, 1, 2, 3), of(2, -10, 20, 1, 2, 3), of(2, 10, -20, 1, 2, 3), of(2, 10, 20, -1, 2, 3), of(2, 10, 20, 1, -2, 3),
	of(math.MaxInt, 10, 20, 1, 2, 3), of(math.MinInt, 10, 20, 1, 2, 3), of(2, math.MinInt, 20, 1, 2, 3), of(2, math.MinInt, math.MaxInt, 1, 2, 3), of(2, 10, math.MaxInt, 1, 2, 3),
	of(2, 10, 20, math.MinInt, 2, 3), of(2, 10, 20, 1, math.MaxInt, 3), of(2, 10, 20, 1, 2, math.MinInt), of(2, 10, 20, 1, 2, math.MaxInt),
}

// near are numbers at the edges of all fields, and far beyond them.
var near = []int{
	math.MinInt, math.MinInt + 1, -clock - 1, -last - 1, -last, -1 << 32, -49, -20, -2, -1, 0, 1, 2, 3, 4, 5, 6, 7, 8, 9, 10, 11, 15, 19, 20, 21, 47, 48, 49, 59, 60, 61, 107, 108, 109,
	1 << 31, 1 << 32, last - 1, last, last + 1, last + 47, last + 48, last + 49, clock - 20, clock - 1, clock, clock + 1, 1 << 62, math.MaxInt - 1, math.MaxInt,
}

// The references below say by the document's words what is so, without the layers below.

func refSpec(s api.Spec) bool {
	return s.C >= 1 && s.C <= 6 && s.C <= s.T && s.T <= s.Max && s.Max <= 48 &&
		s.M >= 1 && s.M <= s.K && s.K <= 6 && s.E >= 0 && s.E <= 8 && (s.E != 0 || s.T == s.Max)
}

// refMand tells whether a job is mandatory, of a description that may be, and a number that may be.
func refMand(s api.Spec, n int) bool { return words[s.K-1][s.M-1][n%s.K] == '1' }

// refJob tells whether a job may be of a description that may be.
func refJob(s api.Spec, j api.Job) bool {
	if !j.On {
		return j.J == 0 && j.Rel == 0 && j.Due == 0 && !j.Mand && j.C == 0 && j.D == 0 && j.Ran == 0
	}
	return j.J >= 0 && j.J <= clock && j.Rel >= 0 && j.Rel < j.Due && j.Due <= clock && j.Mand == refMand(s, j.J) &&
		j.C == s.C && j.D >= 1 && j.D <= 20 && j.Ran >= 0 && j.Ran < j.C && j.Ran < j.D
}

func refMay(l []api.Live, now int) bool {
	if len(l) > tasks || now < 0 || now > last {
		return false
	}
	for _, x := range l {
		if !refSpec(x.S) || x.P < x.S.T || x.P > x.S.Max || x.At < now || x.At > now+longest || x.N < 0 || x.N > last || !refJob(x.S, x.J) {
			return false
		}
		if x.J.On && (x.J.Rel >= now || x.J.Due != x.At || x.N-1 != x.J.J) {
			return false
		}
	}
	return true
}

// fits tells whether a and b together are a number of 64 bits: of others the document says nothing.
func fits(a, b int) bool {
	if b < 0 {
		return a >= math.MinInt-b
	}
	return a <= math.MaxInt-b
}

// refNew is a task's next job, from a time on: a zero one, if there is none.
func refNew(x api.Live, now int) api.Job {
	if !refSpec(x.S) || x.N < 0 || x.N > clock || now < 0 || x.P < 1 || !fits(now, x.P) || now+x.P > clock {
		return api.Job{}
	}
	return api.Job{On: true, J: x.N, Rel: now, Due: now + x.P, Mand: refMand(x.S, x.N), C: x.S.C, D: x.S.C}
}

func refBegin(l []api.Live, now int) []api.Live {
	var begun []api.Live
	for _, x := range l {
		if now >= x.At {
			x = api.Live{S: x.S, J: refNew(x, now), P: x.P, At: now + x.P, N: x.N + 1}
		}
		begun = append(begun, x)
	}
	return begun
}

// refBand tells whether a job is of the first band.
func refBand(j api.Job) bool { return j.On && j.Mand && j.Ran < j.C }

// refFirst is the place of the one that no other one is ahead of.
func refFirst(l []api.Live) int {
	for i, x := range l {
		alone := refBand(x.J)
		for k, y := range l {
			if refBand(y.J) && (y.J.Due < x.J.Due || y.J.Due == x.J.Due && k < i) {
				alone = false
			}
		}
		if alone {
			return i
		}
	}
	return -1
}

func refStep(l []api.Live, now int) ([]api.Live, bool) {
	l = refBegin(l, now)
	missed := false
	first := refFirst(l)
	for i := range l {
		j := l[i].J
		if i == first {
			j.Ran = j.Ran + 1
			if j.Ran >= j.D || j.Ran >= j.C {
				j = api.Job{}
			}
		}
		if j.On && (j.Due <= now || j.Due-1 == now) {
			missed = missed || refBand(j)
			j = api.Job{}
		}
		l[i].J = j
	}
	return l, missed
}

func refLook(l []api.Live, now int) (int, bool) {
	if !refMay(l, now) {
		return 0, false
	}
	end := now + look
	for ; now < end; now++ {
		if refFirst(l) == -1 {
			return now, true
		}
		then, missed := refStep(l, now)
		if missed {
			return now, false
		}
		l = then
	}
	return end, false
}

// told is tasks without what the document doesn't tell of them: an At or an N that goes beyond 64 bits as they begin.
func told(l, from []api.Live, now int) []api.Live {
	l = slices.Clone(l)
	for i, x := range from {
		if x.At <= now && !fits(now, x.P) {
			l[i].At = 0
		}
		if x.At <= now && !fits(x.N, 1) {
			l[i].N = 0
		}
	}
	return l
}

// plain tells whether of all jobs the difference of C and Ran is a number of 64 bits: of others the document doesn't tell whether they are of the first band.
func plain(l []api.Live) bool {
	return !slices.ContainsFunc(l, func(x api.Live) bool { return x.J.Ran == math.MinInt || !fits(x.J.C, -x.J.Ran) })
}

// holds fails if anything is told of tasks at a time otherwise than by the words, or if they do not stay as they were.
func holds(t *testing.T, l []api.Live, now int) {
	t.Helper()
	was := slices.Clone(l)
	if May(l, now) != refMay(l, now) {
		t.Errorf("May(%+v, %d): %v", l, now, May(l, now))
	}
	if got, want := Begin(l, now), refBegin(l, now); !slices.Equal(told(got, l, now), told(want, l, now)) {
		t.Errorf("Begin(%+v, %d): %+v, not %+v", l, now, got, want)
	}
	n, ok := Look(l, now)
	if m, yes := refLook(l, now); n != m || ok != yes {
		t.Errorf("Look(%+v, %d): %d %v, not %d %v", l, now, n, ok, m, yes)
	}
	if !plain(l) {
		First(l)
		Idle(l)
		Step(l, now)
	} else {
		if First(l) != refFirst(l) || Idle(l) != (refFirst(l) == -1) {
			t.Errorf("First(%+v): %d, not %d; Idle: %v", l, First(l), refFirst(l), Idle(l))
		}
		got, missed := Step(l, now)
		if want, late := refStep(l, now); !slices.Equal(told(got, l, now), told(want, l, now)) || missed != late {
			t.Errorf("Step(%+v, %d): %+v %v, not %+v %v", l, now, got, missed, want, late)
		}
	}
	if !slices.Equal(l, was) {
		t.Errorf("%+v at %d was changed: %+v", was, now, l)
	}
}

// looks fails if Look of tasks at a time tells anything else.
func looks(t *testing.T, l []api.Live, now, want int, yes bool) {
	t.Helper()
	if n, ok := Look(l, now); n != want || ok != yes {
		t.Errorf("Look(%+v, %d): %d %v, not %d %v", l, now, n, ok, want, yes)
	}
}

// steps fails if a step of tasks at a time comes to anything else.
func steps(t *testing.T, l []api.Live, now int, want []api.Live, missed bool) {
	t.Helper()
	if got, late := Step(l, now); !slices.Equal(got, want) || late != missed {
		t.Errorf("Step(%+v, %d): %+v %v, not %+v %v", l, now, got, late, want, missed)
	}
}

// fields are a task's numbers, and its job's, each to be set by itself.
func fields(x *api.Live) []*int {
	return []*int{&x.P, &x.At, &x.N, &x.J.J, &x.J.Rel, &x.J.Due, &x.J.C, &x.J.D, &x.J.Ran, &x.S.C, &x.S.T, &x.S.Max, &x.S.M, &x.S.K, &x.S.E}
}

// state is where drawing stands; each test that draws begins anew.
type state uint64

func (s *state) draw(low, high int) int {
	*s = *s*6364136223846793005 + 1442695040888963407
	return low + int(*s>>33)%(high-low+1)
}

// drawSpec is a description that may be, whose period is short as often as it is long.
func (s *state) drawSpec() api.Spec {
	c, k := s.draw(1, 6), s.draw(1, 6)
	t := s.draw(c, []int{8, 16, 48}[s.draw(0, 2)])
	d := of(c, t, s.draw(t, 48), s.draw(1, k), k, s.draw(0, 8))
	if d.E == 0 {
		d.Max = d.T
	}
	if s.draw(0, 1) == 0 {
		d.M = d.K
	}
	return d
}

// drawTask is a task that may be at a time, more often with a job than without.
func (s *state) drawTask(now int) api.Live {
	d := s.drawSpec()
	n := []int{s.draw(0, 12), last - s.draw(0, 12)}[s.draw(0, 1)]
	at := now + []int{0, s.draw(0, 5), s.draw(0, 48)}[s.draw(0, 2)]
	p := s.draw(d.T, d.Max)
	if n == 0 || now == 0 || s.draw(0, 3) == 0 {
		return next(d, p, at, n)
	}
	x := work(d, p, max(0, now-s.draw(1, 60)), at, n, 0)
	x.J.D = []int{d.C, s.draw(1, 20)}[s.draw(0, 1)]
	x.J.Ran = s.draw(0, min(x.J.C, x.J.D)-1)
	return x
}

// drawn hands on so many lists that may be at a time, always the same ones.
func drawn(times int, f func(l []api.Live, now int)) {
	s := state(12)
	for range times {
		now := []int{0, 1, s.draw(2, 400), last - s.draw(0, 50), last}[s.draw(0, 4)]
		var l []api.Live
		for range s.draw(0, tasks) {
			l = append(l, s.drawTask(now))
		}
		f(l, now)
	}
}

// P12.1 to P12.3: the chapter's example, told in full: one of 2 of 10 that begins at 0: at 0 it is idle; at 1 its job has 1 left, and it is idle at 2.
func TestExample(t *testing.T) {
	l := list(next(one, 10, 0, 0))
	if !May(l, 0) || !Idle(l) || First(l) != -1 {
		t.Fatalf("at first: %v %v %d", May(l, 0), Idle(l), First(l))
	}
	looks(t, l, 0, 0, true)
	b := Begin(l, 0)
	x := api.Live{S: one, P: 10, At: 10, N: 1, J: api.Job{On: true, Due: 10, Mand: true, C: 2, D: 2}}
	if !slices.Equal(b, list(x)) || First(b) != 0 || Idle(b) {
		t.Fatalf("Begin: %+v", b)
	}
	x.J.Ran = 1
	steps(t, l, 0, list(x), false)
	steps(t, b, 0, list(x), false)
	if !May(list(x), 1) || First(list(x)) != 0 {
		t.Errorf("at 1: %v %d", May(list(x), 1), First(list(x)))
	}
	looks(t, list(x), 1, 2, true)
	x.J = api.Job{}
	y, missed := Step(b, 0)
	steps(t, y, 1, list(x), false)
	if missed || !Idle(list(x)) || !May(list(x), 2) {
		t.Errorf("at 2: %v", missed)
	}
	looks(t, list(x), 2, 2, true)
	for now := 2; now < 10; now++ {
		steps(t, list(x), now, list(x), false)
	}
	// job 1 is not mandatory: it doesn't run, and that it is missed at 20 is not told
	x = work(one, 10, 10, 20, 2, 0)
	steps(t, list(next(one, 10, 10, 1)), 10, list(x), false)
	for now := 11; now < 19; now++ {
		steps(t, list(x), now, list(x), false)
		looks(t, list(x), now, now, true)
	}
	x.J = api.Job{}
	steps(t, list(work(one, 10, 10, 20, 2, 0)), 19, list(x), false)
	steps(t, list(x), 20, list(work(one, 10, 20, 30, 3, 1)), false)
}

// P12.1: what one task may be as it is, at the edges that the chapter names, told one by one.
func TestMayAtTheEdges(t *testing.T) {
	base := work(one, 12, 50, 70, 3, 1)
	with := func(f func(x *api.Live)) api.Live {
		x := base
		f(&x)
		return x
	}
	job := func(f func(j *api.Job)) api.Live { return with(func(x *api.Live) { f(&x.J) }) }
	for i, c := range []struct {
		x    api.Live
		now  int
		want bool
	}{
		{base, 60, true},
		// the description, and none
		{api.Live{}, 60, false}, {api.Live{P: 10, At: 60}, 60, false},
		// P of T, of Max, and one beyond each
		{next(one, 10, 60, 0), 60, true}, {next(one, 9, 60, 0), 60, false}, {next(one, 20, 60, 0), 60, true}, {next(one, 21, 60, 0), 60, false}, {next(one, 0, 60, 0), 60, false}, {next(one, -10, 60, 0), 60, false},
		// At that is now, now and 48, and one beyond each
		{next(one, 10, 59, 0), 60, false}, {next(one, 10, 61, 0), 60, true}, {next(one, 10, 107, 0), 60, true}, {next(one, 10, 108, 0), 60, true}, {next(one, 10, 109, 0), 60, false},
		{next(one, 10, 0, 0), 0, true}, {next(one, 10, 48, 0), 0, true}, {next(one, 10, 49, 0), 0, false}, {next(one, 10, -1, 0), 0, false},
		{next(one, 10, last, 0), last, true}, {next(one, 10, last+48, 0), last, true}, {next(one, 10, last+49, 0), last, false}, {next(one, 10, last-1, 0), last, false},
		{next(one, 10, last+1, 0), last + 1, false}, {next(one, 10, -1, 0), -1, false}, {next(one, 10, 0, 0), -1, false}, {next(one, 10, last+1, 0), last, true},
		// N of 0, of 2^39, and one more
		{next(one, 10, 60, 0), 60, true}, {next(one, 10, 60, -1), 60, false}, {next(one, 10, 60, last), 60, true}, {next(one, 10, 60, last+1), 60, false},
		{work(one, 12, 50, 70, last, 1), 60, true}, {work(one, 12, 50, 70, last+1, 1), 60, false}, {work(one, 12, 50, 70, 1, 1), 60, true},
		// a job with Rel just below now, that is now, and beyond
		{work(one, 12, 59, 70, 3, 1), 60, true}, {work(one, 12, 60, 70, 3, 1), 60, false}, {work(one, 12, 61, 70, 3, 1), 60, false}, {work(one, 12, 0, 70, 3, 1), 60, true}, {work(one, 12, -1, 70, 3, 1), 60, false},
		{work(one, 12, 0, 10, 3, 1), 0, false}, {work(one, 12, 0, 10, 3, 1), 1, true}, {work(one, 12, last, last+1, 3, 1), last, false}, {work(one, 12, last-1, last, 3, 1), last, true},
		// Due that is now, and just ahead of it
		{work(one, 12, 50, 60, 3, 1), 60, true}, {work(one, 12, 50, 59, 3, 1), 60, false}, {work(one, 12, 50, 61, 3, 1), 60, true}, {work(one, 12, 50, 108, 3, 1), 60, true}, {work(one, 12, 50, 109, 3, 1), 60, false},
		// Due that is not At
		{with(func(x *api.Live) { x.At++ }), 60, false}, {with(func(x *api.Live) { x.At-- }), 60, false}, {job(func(j *api.Job) { j.Due++ }), 60, false}, {job(func(j *api.Job) { j.Due-- }), 60, false},
		// N that is not one more than its J, where both numbers alone may be
		{with(func(x *api.Live) { x.N-- }), 60, false}, {with(func(x *api.Live) { x.N += 2 }), 60, false}, {with(func(x *api.Live) { x.N = 1 }), 60, false}, {with(func(x *api.Live) { x.N = 0 }), 60, false}, {with(func(x *api.Live) { x.N = 5 }), 60, false},
		{job(func(j *api.Job) { j.J += 2 }), 60, false}, {job(func(j *api.Job) { j.J -= 2 }), 60, false},
		// jobs that may not be of the description
		{job(func(j *api.Job) { j.On = false }), 60, false}, {job(func(j *api.Job) { j.Mand = false }), 60, false}, {job(func(j *api.Job) { j.C = 3 }), 60, false}, {job(func(j *api.Job) { j.D = 0 }), 60, false}, {job(func(j *api.Job) { j.D = 21 }), 60, false},
		{job(func(j *api.Job) { j.D = 20 }), 60, true}, {job(func(j *api.Job) { j.D = 1 }), 60, false}, {job(func(j *api.Job) { j.Ran = 2 }), 60, false}, {job(func(j *api.Job) { j.Ran = -1 }), 60, false}, {job(func(j *api.Job) { j.Ran = 0 }), 60, true},
		{job(func(j *api.Job) { j.Rel = 70 }), 60, false}, {job(func(j *api.Job) { *j = api.Job{Mand: true} }), 60, false}, {job(func(j *api.Job) { *j = api.Job{} }), 60, true},
		{with(func(x *api.Live) { x.S.C = 3 }), 60, false}, {with(func(x *api.Live) { x.S.E = 9 }), 60, false}, {with(func(x *api.Live) { x.S.M, x.S.K = 2, 5 }), 60, true}, {with(func(x *api.Live) { x.S.M, x.S.K = 1, 6 }), 60, false},
	} {
		if May(list(c.x), c.now) != c.want {
			t.Errorf("%d: May(%+v, %d): %v", i, c.x, c.now, !c.want)
		}
		holds(t, list(c.x), c.now)
	}
}

// P12.1: none, one, four and five tasks; now of 0, of 2^39, and one beyond each; one that may not be at each place.
func TestMayOfHowMany(t *testing.T) {
	for _, now := range near {
		yes := now >= 0 && now <= last
		for _, l := range [][]api.Live{nil, {}} {
			if May(l, now) != yes || First(l) != -1 || !Idle(l) || len(Begin(l, now)) != 0 {
				t.Errorf("none at %d: %v %d %v %v", now, May(l, now), First(l), Idle(l), Begin(l, now))
			}
			if got, missed := Step(l, now); len(got) != 0 || missed {
				t.Errorf("none at %d: %v %v", now, got, missed)
			}
			if yes {
				looks(t, l, now, now, true)
			} else {
				looks(t, l, now, 0, false)
			}
		}
		if !fits(now, longest) {
			continue
		}
		for n := range 7 {
			l := slices.Repeat(list(next(one, 10, now+3, 7)), n)
			if May(l, now) != (yes && n <= 4) {
				t.Errorf("%d at %d: %v", n, now, May(l, now))
			}
			holds(t, l, now)
			for i := range min(n, 4) {
				for _, wrong := range []api.Live{{}, next(one, 9, now+3, 7), next(one, 10, now-1, 7), next(one, 10, now+3, -1), next(bad[1], 10, now+3, 7)} {
					odd := slices.Clone(l)
					odd[i] = wrong
					if May(odd, now) {
						t.Errorf("May(%+v, %d)", odd, now)
					}
					holds(t, odd, now)
				}
			}
		}
	}
	if api.MaxTasks != tasks || api.MaxNow != last || api.MaxLook != look || api.MaxT != longest || api.MaxTime != clock {
		t.Error("other numbers")
	}
}

// bases are tasks that may be at 60, with a job and without.
func bases() []api.Live {
	var l []api.Live
	for i, s := range good {
		l = append(l, next(s, s.T, 60+i, i), next(s, s.Max, 60, last-i), work(s, s.Max, 59-i, 60+i, i+1, s.C-1), work(s, s.T, 0, 108, last-i, 0))
	}
	return l
}

// P12.1 to P12.3: tasks that may be, with one field, and with two of them, near all edges and far beyond them, held against the words.
func TestFieldsByTheirMeaning(t *testing.T) {
	yes, no := 0, 0
	for n, base := range bases() {
		if !May(list(base), 60) {
			t.Fatalf("May(%+v): no", base)
		}
		for i := range 15 {
			for _, a := range near {
				x := base
				*fields(&x)[i] = a
				holds(t, list(x), 60)
				if refMay(list(x), 60) {
					yes++
				} else {
					no++
				}
				for _, b := range near {
					two := x
					*fields(&two)[(i+1+n%14)%15] = b
					holds(t, list(two), 60)
				}
			}
		}
	}
	if yes < 500 || no < 500 {
		t.Errorf("%d and %d", yes, no)
	}
}

// P12.1 to P12.3: now near all edges and far beyond them, also with one field, and a task that is near it.
func TestNowByItsMeaning(t *testing.T) {
	for _, now := range near {
		for _, base := range bases() {
			holds(t, list(base), now)
			for i := range 9 {
				for _, a := range near {
					x := base
					*fields(&x)[i] = a
					holds(t, list(x, base), now)
				}
			}
			for _, by := range []int{-1, 0, 1, 47, 48, 49} {
				x := base
				x.At = now + by
				holds(t, list(base, x), now)
				x.J.Due = x.At
				for _, rel := range []int{now - 1, now, 0} {
					x.J.Rel = rel
					holds(t, list(x), now)
				}
			}
		}
	}
}

// P12.1: of a description that may not be no task may be, and none of its jobs begins; all else of Begin is as with others.
func TestWrongSpecs(t *testing.T) {
	for _, s := range bad {
		for _, p := range []int{s.T, s.Max, 0, 10} {
			x := next(s, p, 60, 3)
			held := x
			held.J = api.Job{On: true, J: 2, Rel: 50, Due: 60, Mand: true, C: s.C, D: 1}
			for _, l := range [][]api.Live{list(x), list(held), list(next(one, 10, 60, 0), x), list(held, next(one, 10, 60, 0))} {
				if May(l, 60) {
					t.Errorf("May(%+v)", l)
				}
				looks(t, l, 60, 0, false)
				holds(t, l, 60)
				holds(t, l, 59)
			}
			if b := Begin(list(held), 60); fits(60, p) && !slices.Equal(b, list(next(s, p, 60+p, 4))) {
				t.Errorf("Begin(%+v): %+v", held, b)
			}
			if b := Begin(list(held), 59); !slices.Equal(b, list(held)) {
				t.Errorf("Begin(%+v): %+v", held, b)
			}
		}
	}
}

// P12.1: Begin, told in full: ahead of At, at it, and behind it; from now on, not from At; several at once; over a job that is there; and where there is no new job.
func TestBeginAsWritten(t *testing.T) {
	s := of(4, 5, 20, 2, 5, 1)
	for i, c := range []struct {
		x    api.Live
		now  int
		want api.Live
	}{
		{next(s, 6, 60, 7), 59, next(s, 6, 60, 7)},
		{next(s, 6, 60, 7), 60, api.Live{S: s, P: 6, At: 66, N: 8, J: api.Job{On: true, J: 7, Rel: 60, Due: 66, Mand: true, C: 4, D: 4}}},
		{next(s, 6, 60, 7), 61, api.Live{S: s, P: 6, At: 67, N: 8, J: api.Job{On: true, J: 7, Rel: 61, Due: 67, Mand: true, C: 4, D: 4}}},
		{next(s, 6, 60, 8), 90, api.Live{S: s, P: 6, At: 96, N: 9, J: api.Job{On: true, J: 8, Rel: 90, Due: 96, C: 4, D: 4}}},
		// over a job that is there, which ran, and would run otherwise
		{work(s, 6, 50, 60, 8, 3), 60, api.Live{S: s, P: 6, At: 66, N: 9, J: api.Job{On: true, J: 8, Rel: 60, Due: 66, C: 4, D: 4}}},
		{work(s, 6, 50, 60, 8, 3), 59, work(s, 6, 50, 60, 8, 3)},
		{api.Live{S: s, P: 6, At: 60, N: 5, J: api.Job{On: true, J: 4, Rel: 5, Due: 99, C: 4, D: 20, Ran: 2}}, 60, api.Live{S: s, P: 6, At: 66, N: 6, J: api.Job{On: true, J: 5, Rel: 60, Due: 66, Mand: true, C: 4, D: 4}}},
		// P need not be a period of the task's
		{next(s, 1, 60, 5), 60, api.Live{S: s, P: 1, At: 61, N: 6, J: api.Job{On: true, J: 5, Rel: 60, Due: 61, Mand: true, C: 4, D: 4}}},
		{next(s, 100, 60, 5), 60, api.Live{S: s, P: 100, At: 160, N: 6, J: api.Job{On: true, J: 5, Rel: 60, Due: 160, Mand: true, C: 4, D: 4}}},
		// the greatest numbers of a job, and of when it must have ended
		{next(s, 6, 60, clock), 60, api.Live{S: s, P: 6, At: 66, N: clock + 1, J: api.Job{On: true, J: clock, Rel: 60, Due: 66, C: 4, D: 4}}},
		{next(s, 6, 60, 0), clock - 6, api.Live{S: s, P: 6, At: clock, N: 1, J: api.Job{On: true, Rel: clock - 6, Due: clock, Mand: true, C: 4, D: 4}}},
		{next(s, 6, -3, 0), 0, api.Live{S: s, P: 6, At: 6, N: 1, J: api.Job{On: true, Due: 6, Mand: true, C: 4, D: 4}}},
		// there is no new job
		{work(s, 6, 50, 60, clock+2, 3), 60, next(s, 6, 66, clock+3)},
		{next(s, 6, 60, -1), 60, next(s, 6, 66, 0)},
		{next(s, 6, 60, -9), 60, next(s, 6, 66, -8)},
		{work(s, 6, 50, 60, 8, 3), clock - 5, next(s, 6, clock+1, 9)},
		{next(s, 6, -60, 0), -1, next(s, 6, 5, 1)},
		{work(s, 0, 50, 60, 8, 3), 60, next(s, 0, 60, 9)},
		{work(s, -7, 50, 60, 8, 3), 60, next(s, -7, 53, 9)},
		{next(s, 6, math.MinInt, 0), math.MinInt, next(s, 6, math.MinInt+6, 1)},
		{next(s, math.MinInt, math.MaxInt, 0), math.MaxInt, next(s, math.MinInt, -1, 1)},
		{next(s, math.MaxInt, 0, 0), 0, next(s, math.MaxInt, math.MaxInt, 1)},
		{next(bad[1], 10, 60, 3), 60, next(bad[1], 10, 70, 4)},
	} {
		if b := Begin(list(c.x), c.now); !slices.Equal(b, list(c.want)) {
			t.Errorf("%d: Begin(%+v, %d): %+v, not %+v", i, c.x, c.now, b, c.want)
		}
		holds(t, list(c.x), c.now)
	}
	// several at once, and others not
	l := list(next(one, 10, 5, 0), next(firm(3, 5), 5, 6, 0), work(firm(2, 7), 7, 0, 5, 1, 1), next(one, 20, 4, 1), work(one, 20, 1, 6, 1, 1))
	want := list(work(one, 10, 5, 15, 1, 0), next(firm(3, 5), 5, 6, 0), work(firm(2, 7), 7, 5, 12, 2, 0), work(one, 20, 5, 25, 2, 0), work(one, 20, 1, 6, 1, 1))
	if b := Begin(l, 5); !slices.Equal(b, want) {
		t.Errorf("Begin: %+v, not %+v", b, want)
	}
}

// P12.1: who is the first one, told one by one, also of lists that may not be: by Due, of several by where they stand; mandatory, On, with some left to run.
func TestFirstAsWritten(t *testing.T) {
	must := func(due int) api.Live { return api.Live{J: api.Job{On: true, Mand: true, Due: due, C: 1}} }
	with := func(due int, f func(j *api.Job)) api.Live {
		x := must(due)
		f(&x.J)
		return x
	}
	off := with(1, func(j *api.Job) { j.On = false })
	may := with(1, func(j *api.Job) { j.Mand = false })
	spent := with(1, func(j *api.Job) { j.C, j.Ran = 3, 3 })
	over := with(1, func(j *api.Job) { j.C, j.Ran = 3, 4 })
	for i, c := range []struct {
		l    []api.Live
		want int
	}{
		{nil, -1}, {list(api.Live{}), -1}, {list(must(9)), 0}, {list(off), -1}, {list(may), -1}, {list(spent), -1}, {list(over), -1},
		{list(off, may, spent, over), -1}, {list(off, may, spent, over, must(9)), 4}, {list(must(9), off, may, spent, over), 0}, {list(off, must(9), may), 1}, {list(spent, over, must(9), off), 2},
		{list(must(9), must(8)), 1}, {list(must(8), must(9)), 0}, {list(must(8), must(8)), 0}, {list(must(8), must(8), must(8), must(8)), 0}, {list(must(9), must(8), must(8), must(8)), 1}, {list(must(9), must(8), must(9), must(8)), 1},
		{list(must(9), must(9), must(8), must(8)), 2}, {list(must(9), must(8), must(7), must(6)), 3}, {list(must(8), must(7), must(6), must(7)), 2}, {list(off, must(8), must(8)), 1}, {list(may, must(8), must(7), must(7)), 2},
		{list(must(0), must(-1)), 1}, {list(must(math.MaxInt), must(math.MinInt)), 1}, {list(must(math.MinInt), must(math.MaxInt)), 0}, {list(must(math.MaxInt)), 0}, {list(off, must(math.MaxInt)), 1}, {list(must(-1), must(0)), 0}, {list(must(math.MinInt)), 0},
		{list(must(6), must(5), must(4), must(3), must(2), must(1), must(1)), 5}, {slices.Repeat(list(off), 9), -1},
		// how long it would run, and when it began, is asked of nobody
		{list(must(9), with(8, func(j *api.Job) { j.D, j.Ran, j.C = 1, 2, 3 })), 1}, {list(with(8, func(j *api.Job) { j.Rel = 99 }), must(9)), 0}, {list(with(8, func(j *api.Job) { j.C = 6 }), with(8, func(j *api.Job) { j.C = 1 })), 0},
		{list(must(9), with(8, func(j *api.Job) { j.C, j.Ran = 0, -1 })), 1}, {list(with(8, func(j *api.Job) { j.C = 0 })), -1}, {list(with(8, func(j *api.Job) { j.C = -1 })), -1},
	} {
		if First(c.l) != c.want || Idle(c.l) != (c.want == -1) {
			t.Errorf("%d: First(%+v): %d, not %d; Idle: %v", i, c.l, First(c.l), c.want, Idle(c.l))
		}
		holds(t, c.l, 5)
	}
}

// P12.1: each task, in each order of four of which two are due at once.
func TestFirstOfEachOrder(t *testing.T) {
	dues := []int{7, 7, 8, 9}
	for code := range 256 {
		var l []api.Live
		for i := range 4 {
			l = append(l, work(firm(2, 10), 10, 1, dues[code>>(2*i)&3], 1, 0))
			l[i].J.Mand = code%3 != i
		}
		holds(t, l, 5)
	}
}

// P12.2: one step, told in full: only the first one runs; whose time has come begins ahead of that; what must have ended behind it is gone.
func TestStepAsWritten(t *testing.T) {
	a, b := firm(3, 10), firm(2, 9)
	gone := func(x api.Live) api.Live {
		x.J = api.Job{}
		return x
	}
	would := func(x api.Live, d int) api.Live {
		x.J.D = d
		return x
	}
	optional := work(one, 10, 1, 7, 2, 0)
	spent := work(firm(3, 10), 10, 1, 7, 1, 3)
	for i, c := range []struct {
		l, want []api.Live
		now     int
		missed  bool
	}{
		// the first one alone runs: by Due, and by where it stands
		{list(work(a, 10, 1, 9, 1, 0), work(b, 9, 1, 8, 1, 0)), list(work(a, 10, 1, 9, 1, 0), work(b, 9, 1, 8, 1, 1)), 5, false},
		{list(work(a, 10, 1, 9, 1, 0), work(b, 9, 1, 9, 1, 0)), list(work(a, 10, 1, 9, 1, 1), work(b, 9, 1, 9, 1, 0)), 5, false},
		{list(work(b, 9, 1, 9, 1, 0), work(a, 10, 1, 9, 1, 0)), list(work(b, 9, 1, 9, 1, 1), work(a, 10, 1, 9, 1, 0)), 5, false},
		{list(optional, work(a, 10, 1, 9, 1, 1)), list(optional, work(a, 10, 1, 9, 1, 2)), 5, false},
		// it ends: it ran as long as it may, or would
		{list(work(a, 10, 1, 9, 1, 2), work(b, 9, 1, 9, 1, 0)), list(gone(work(a, 10, 1, 9, 1, 2)), work(b, 9, 1, 9, 1, 0)), 5, false},
		{list(would(work(a, 10, 1, 9, 1, 1), 2)), list(gone(work(a, 10, 1, 9, 1, 1))), 5, false},
		{list(would(work(a, 10, 1, 9, 1, 2), 20)), list(gone(work(a, 10, 1, 9, 1, 2))), 5, false},
		{list(would(work(a, 10, 1, 9, 1, 1), 20)), list(would(work(a, 10, 1, 9, 1, 2), 20)), 5, false},
		// it ends by its last step, just when it must have; or it is missed just then, with one left, or with all
		{list(work(a, 10, 1, 6, 1, 2)), list(gone(work(a, 10, 1, 6, 1, 2))), 5, false},
		{list(would(work(a, 10, 1, 6, 1, 0), 1)), list(gone(work(a, 10, 1, 6, 1, 0))), 5, false},
		{list(work(a, 10, 1, 6, 1, 1)), list(gone(work(a, 10, 1, 6, 1, 1))), 5, true},
		{list(work(a, 10, 1, 6, 1, 0)), list(gone(work(a, 10, 1, 6, 1, 0))), 5, true},
		{list(work(a, 10, 1, 7, 1, 1)), list(work(a, 10, 1, 7, 1, 2)), 5, false},
		// one ends just then, and another one, that didn't run, is missed; at each place
		{list(work(a, 10, 1, 6, 1, 2), work(b, 9, 1, 6, 1, 1)), list(gone(work(a, 10, 1, 6, 1, 2)), gone(work(b, 9, 1, 6, 1, 1))), 5, true},
		{list(work(a, 10, 1, 6, 1, 1), work(b, 9, 1, 7, 1, 1)), list(gone(work(a, 10, 1, 6, 1, 1)), work(b, 9, 1, 7, 1, 1)), 5, true},
		{list(work(b, 9, 1, 7, 1, 1), work(a, 10, 1, 6, 1, 1)), list(work(b, 9, 1, 7, 1, 1), gone(work(a, 10, 1, 6, 1, 1))), 5, true},
		{list(work(b, 9, 1, 6, 1, 1), work(a, 10, 1, 6, 1, 1), work(b, 9, 1, 7, 1, 1)), list(gone(work(b, 9, 1, 6, 1, 1)), gone(work(a, 10, 1, 6, 1, 1)), work(b, 9, 1, 7, 1, 1)), 5, true},
		// what is not of the first band is gone, too, and that is not told
		{list(optional), list(gone(optional)), 6, false},
		{list(optional, work(a, 10, 1, 7, 1, 2)), list(gone(optional), gone(work(a, 10, 1, 7, 1, 2))), 6, false},
		{list(work(a, 10, 1, 7, 1, 1), optional), list(gone(work(a, 10, 1, 7, 1, 1)), gone(optional)), 6, true},
		{list(spent), list(gone(spent)), 6, false},
		{list(spent, optional), list(spent, optional), 5, false},
		// what begins runs at once, by its own Due, over the job that is there, which is not told as missed
		{list(next(a, 10, 5, 0)), list(work(a, 10, 5, 15, 1, 1)), 5, false},
		{list(next(a, 10, 6, 0)), list(next(a, 10, 6, 0)), 5, false},
		{list(work(a, 10, 1, 5, 1, 1)), list(work(a, 10, 5, 15, 2, 1)), 5, false},
		{list(work(one, 10, 1, 5, 1, 1)), list(work(one, 10, 5, 15, 2, 0)), 5, false},
		{list(next(a, 10, 5, 0), next(b, 9, 5, 0)), list(work(a, 10, 5, 15, 1, 0), work(b, 9, 5, 14, 1, 1)), 5, false},
		{list(next(a, 10, 5, 0), next(b, 10, 4, 0), next(one, 10, 5, 1)), list(work(a, 10, 5, 15, 1, 1), work(b, 10, 5, 15, 1, 0), work(one, 10, 5, 15, 2, 0)), 5, false},
		{list(next(a, 10, 5, 0), work(b, 9, 1, 14, 1, 1)), list(work(a, 10, 5, 15, 1, 0), gone(work(b, 9, 1, 14, 1, 1))), 5, false},
		{list(work(b, 9, 1, 16, 1, 1), next(a, 10, 5, 0)), list(work(b, 9, 1, 16, 1, 1), work(a, 10, 5, 15, 1, 1)), 5, false},
		// what begins, and must have ended behind that step
		{list(next(firm(1, 1), 1, 5, 0)), list(next(firm(1, 1), 1, 6, 1)), 5, false},
		{list(next(firm(1, 1), 1, 5, 0), next(firm(1, 1), 1, 5, 0)), list(next(firm(1, 1), 1, 6, 1), next(firm(1, 1), 1, 6, 1)), 5, true},
		// lists that may not be: five; a job that should have ended long ago; now beyond all limits
		{slices.Repeat(list(work(b, 9, 1, 9, 1, 0)), 5), append(list(work(b, 9, 1, 9, 1, 1)), slices.Repeat(list(work(b, 9, 1, 9, 1, 0)), 4)...), 5, false},
		{list(api.Live{S: a, P: 10, At: 99, J: api.Job{On: true, Mand: true, Due: 2, C: 3, D: 3}}), list(next(a, 10, 99, 0)), 5, true},
		{list(work(a, 10, 1, 9, 1, 0)), list(next(a, 10, math.MaxInt, 2)), math.MaxInt - 10, false},
		{list(work(a, 10, 1, math.MaxInt, 1, 0)), list(gone(work(a, 10, 1, math.MaxInt, 1, 0))), math.MaxInt - 1, true},
		{list(work(a, 10, 1, math.MinInt+2, 1, 0)), list(work(a, 10, 1, math.MinInt+2, 1, 1)), math.MinInt, false},
		{list(work(a, 10, 1, math.MinInt+1, 1, 1)), list(gone(work(a, 10, 1, math.MinInt+1, 1, 1))), math.MinInt, true},
	} {
		if got, missed := Step(c.l, c.now); !slices.Equal(got, c.want) || missed != c.missed {
			t.Errorf("%d: Step(%+v, %d): %+v %v, not %+v %v", i, c.l, c.now, got, missed, c.want, c.missed)
		}
		holds(t, c.l, c.now)
	}
}

// P12.2: at the greatest time that there is all begin, no new job may be, and nothing is missed.
func TestStepAtTheLastTime(t *testing.T) {
	for _, x := range bases() {
		x.At = math.MaxInt
		got, missed := Step(list(x, x), math.MaxInt)
		if missed || len(got) != 2 || got[0].J != (api.Job{}) || got[1].J != (api.Job{}) || got[0].N != x.N+1 {
			t.Errorf("Step(%+v): %+v %v", x, got, missed)
		}
	}
}

// P12.3: told in full: idle at once, and later; missed; as l itself is, not as it begins.
func TestLookAsWritten(t *testing.T) {
	a, b := firm(3, 10), firm(2, 9)
	would := func(x api.Live, d int) api.Live {
		x.J.D = d
		return x
	}
	for i, c := range []struct {
		l    []api.Live
		now  int
		want int
		yes  bool
	}{
		// idle at once: none at all, none that is there, one that need not run, several that begin just now
		{nil, 0, 0, true}, {nil, 7, 7, true}, {nil, last, last, true}, {list(next(a, 10, 0, 0)), 0, 0, true}, {list(next(a, 10, 7, 0)), 7, 7, true}, {list(next(a, 10, 9, 0), next(b, 9, 9, 0)), 9, 9, true},
		{list(work(one, 10, 1, 8, 2, 0)), 7, 7, true}, {list(work(one, 10, 1, 7, 2, 0)), 7, 7, true}, {slices.Repeat(list(next(firm(1, 1), 1, 5, 0)), 4), 5, 5, true}, {list(next(a, 10, last+48, last)), last, last, true},
		// idle as soon as all that is there has run
		{list(work(a, 10, 1, 9, 1, 0)), 2, 5, true}, {list(work(a, 10, 1, 9, 1, 2)), 2, 3, true}, {list(work(a, 10, 1, 9, 1, 0), work(b, 9, 1, 9, 1, 0)), 2, 7, true}, {list(would(work(a, 10, 1, 9, 1, 0), 1)), 2, 3, true}, {list(would(work(a, 10, 1, 9, 1, 0), 20)), 2, 5, true},
		{list(work(a, 10, last-1, last+9, last, 0)), last, last + 3, true}, {list(work(one, 10, 1, 9, 2, 0), work(a, 10, 1, 9, 1, 1)), 2, 4, true},
		// what begins till then must run, too, if it is mandatory; what begins just then need not have
		{list(work(a, 10, 1, 9, 1, 0), next(b, 9, 4, 0)), 2, 7, true}, {list(work(a, 10, 1, 9, 1, 0), next(b, 9, 5, 0)), 2, 5, true}, {list(work(a, 10, 1, 9, 1, 0), next(one, 10, 4, 1)), 2, 5, true}, {list(work(a, 10, 1, 9, 1, 0), next(one, 10, 2, 0)), 2, 7, true},
		// it ends just when it must; or not
		{list(work(a, 10, 1, 5, 1, 0)), 2, 5, true}, {list(work(a, 10, 1, 4, 1, 0)), 2, 3, false}, {list(work(a, 10, 1, 3, 1, 0)), 2, 2, false}, {list(work(a, 10, 1, 3, 1, 2)), 2, 3, true}, {list(would(work(a, 10, 1, 3, 1, 0), 1)), 2, 3, true},
		{list(work(a, 10, 1, 6, 1, 0), work(b, 9, 1, 6, 1, 0)), 2, 5, false}, {list(work(a, 10, 1, 7, 1, 0), work(b, 9, 1, 7, 1, 0)), 2, 7, true}, {list(work(a, 10, last-1, last+2, last, 0)), last, last + 1, false},
		{list(work(one, 10, 1, 3, 2, 0), work(a, 10, 1, 9, 1, 0)), 2, 7, true}, {list(work(a, 10, 1, 9, 1, 0), next(firm(6, 6), 6, 4, 0)), 2, 9, false}, {list(work(a, 10, 1, 6, 1, 0), next(firm(2, 2), 2, 3, 0)), 2, 5, false},
		// one that is there when its next one begins gives way to that: it is not missed
		{list(work(a, 10, 1, 7, 1, 0)), 7, 10, true}, {list(work(one, 10, 1, 7, 1, 0)), 7, 8, true}, {list(work(firm(2, 2), 2, 1, 7, 1, 0)), 7, 9, true}, {list(work(firm(1, 1), 1, 6, 7, 1, 0), work(firm(1, 1), 1, 6, 7, 1, 0)), 7, 7, false},
		// they may not be
		{list(api.Live{}), 7, 0, false}, {nil, -1, 0, false}, {nil, last + 1, 0, false}, {slices.Repeat(list(next(a, 10, 7, 0)), 5), 7, 0, false}, {list(next(a, 10, 6, 0)), 7, 0, false}, {list(work(a, 10, 7, 9, 1, 0)), 7, 0, false}, {list(work(a, 10, 1, 9, 1, 3)), 7, 0, false},
		{list(next(a, 10, 7, 0), next(a, 11, 7, 0)), 7, 0, false}, {nil, math.MaxInt, 0, false}, {nil, math.MinInt, 0, false},
	} {
		if n, ok := Look(c.l, c.now); n != c.want || ok != c.yes {
			t.Errorf("%d: Look(%+v, %d): %d %v, not %d %v", i, c.l, c.now, n, ok, c.want, c.yes)
		}
		holds(t, c.l, c.now)
	}
}

// goesOn follows tasks as they are, step by step, from 60 to an end that is farther than Look goes, and holds Look of each against that end.
func goesOn(t *testing.T, l []api.Live, end int, yes bool) {
	t.Helper()
	for now := 60; now < end; now++ {
		if now+look > end || now+look == end && !yes {
			looks(t, l, now, end, yes)
		} else {
			looks(t, l, now, now+look, false)
		}
		then, missed := Step(l, now)
		if missed {
			t.Fatalf("missed at %d", now)
		}
		l = then
	}
	looks(t, l, end, end, yes)
	holds(t, l, end)
	holds(t, l, 60)
}

// P12.3: tasks that are idle only after just 2000 times, or one less, or where one is missed then; and some that never come to an end.
func TestLookAsFarAsItGoes(t *testing.T) {
	idle := list(work(firm(4, 44), 44, 40, 84, 1, 2), work(firm(6, 17), 17, 58, 75, 1, 1), work(firm(5, 9), 9, 58, 67, 1, 0))
	goesOn(t, idle, 60+2004, true)
	late := list(work(firm(4, 47), 47, 25, 72, 1, 0), work(firm(5, 12), 12, 52, 64, 1, 4), next(firm(4, 8), 8, 67, 1))
	goesOn(t, late, 60+2032, false)
	// each takes 6 of 12, and there is always one left of the other
	full := list(work(firm(6, 12), 12, 59, 71, 1, 0), next(firm(6, 12), 12, 60, 0))
	for now := 60; now < 4500; now++ {
		if now%50 == 0 {
			looks(t, full, now, now+look, false)
		}
		then, missed := Step(full, now)
		if missed || Idle(then) {
			t.Fatalf("at %d: %+v %v", now, then, missed)
		}
		full = then
	}
	for i := range full {
		full[i].At += last - 4500
		if full[i].J.On {
			full[i].J.Rel += last - 4500
			full[i].J.Due += last - 4500
		}
	}
	looks(t, full, last, last+look, false)
	holds(t, full, last)
}

// P12.1 to P12.3: lists that may be, step by step, held against the words; and what comes of them may be a time later.
func TestByItsMeaning(t *testing.T) {
	ends := [4]int{}
	drawn(20000, func(l []api.Live, now int) {
		if !May(l, now) {
			t.Fatalf("May(%+v, %d): no", l, now)
		}
		for n := range 4 {
			holds(t, l, now+n)
			l, _ = Step(l, now+n)
		}
	})
	drawn(20000, func(l []api.Live, now int) {
		switch n, ok := refLook(l, now); {
		case ok && n == now:
			ends[0]++
		case ok:
			ends[1]++
		case n < now+look:
			ends[2]++
		default:
			ends[3]++
		}
	})
	if slices.Min(ends[:3]) < 1000 {
		t.Errorf("%v", ends)
	}
}

// P12.2: tasks that may be may be so one time later, too, as long as the time and their numbers are no more than they may.
func TestStaysAsItMayBe(t *testing.T) {
	yes, no := 0, 0
	drawn(3000, func(l []api.Live, now int) {
		for range 150 {
			l, _ = Step(l, now)
			now++
			want := now <= last && !slices.ContainsFunc(l, func(x api.Live) bool { return x.N > last })
			if May(l, now) != want {
				t.Fatalf("May(%+v, %d): %v", l, now, !want)
			}
			if want {
				yes++
			} else {
				no++
			}
		}
	})
	if yes < 10000 || no < 10000 {
		t.Errorf("%d and %d", yes, no)
	}
}

// P12.1 to P12.3: drawn lists with one field of one task near all edges or far beyond them, and longer ones than may be.
func TestWrongListsByTheirMeaning(t *testing.T) {
	s := state(3)
	drawn(20000, func(l []api.Live, now int) {
		for range s.draw(0, 3) {
			l = append(l, s.drawTask(max(0, now)))
		}
		holds(t, l, now)
		if len(l) == 0 {
			return
		}
		x := &l[s.draw(0, len(l)-1)]
		*fields(x)[s.draw(0, 14)] = near[s.draw(0, len(near)-1)]
		holds(t, l, now)
		*fields(x)[s.draw(0, 14)] += s.draw(-1, 1)
		x.J.On = s.draw(0, 3) > 0
		x.J.Mand = s.draw(0, 2) > 0
		holds(t, l, now)
		holds(t, l, near[s.draw(0, len(near)-1)])
	})
}

// R3: the list that is handed in stays as it was, and what is answered is the caller's own, also where nothing begins, and nothing runs.
func TestListsStayAsTheyWere(t *testing.T) {
	l := list(work(firm(3, 10), 10, 1, 9, 1, 0), next(one, 10, 5, 0), work(one, 10, 1, 6, 2, 0), next(one, 10, 9, 1))
	for now := range 12 {
		was := slices.Clone(l)
		// there is room behind the list, which is nobody's but the caller's
		roomy := append(make([]api.Live, 0, 9), l...)
		behind := roomy[:9]
		b := Begin(roomy, now)
		n, _ := Step(roomy, now)
		for range 2 {
			for i := range b {
				b[i], n[i] = api.Live{N: 77}, api.Live{N: 78}
			}
			b, n = append(b, api.Live{N: 79}), append(n, api.Live{N: 79})
		}
		Look(roomy, now)
		First(roomy)
		Idle(roomy)
		May(roomy, now)
		if !slices.Equal(roomy, was) || slices.ContainsFunc(behind[4:], func(x api.Live) bool { return x != api.Live{} }) {
			t.Errorf("at %d: %+v", now, behind)
		}
		// what is answered stays when what was handed in changes
		b, n = Begin(roomy, now), nil
		n, _ = Step(roomy, now)
		wantB, wantN := slices.Clone(b), slices.Clone(n)
		for i := range behind {
			behind[i] = api.Live{N: 80}
		}
		if !slices.Equal(b, wantB) || !slices.Equal(n, wantN) {
			t.Errorf("at %d: %+v %+v", now, b, n)
		}
		l, _ = Step(l, now)
	}
}

// R5: what is told hangs on what is asked alone, not on what was asked ahead of it.
func TestAskedAgain(t *testing.T) {
	var lists [][]api.Live
	var times []int
	drawn(300, func(l []api.Live, now int) {
		lists, times = append(lists, l), append(times, now)
	})
	for i, l := range lists {
		b := Begin(l, times[i])
		n, missed := Step(l, times[i])
		at, ok := Look(l, times[i])
		k := len(lists) - 1 - i
		Begin(lists[k], times[k])
		Step(lists[k], times[k])
		Look(lists[k], times[k])
		again, late := Step(l, times[i])
		then, yes := Look(l, times[i])
		if !slices.Equal(b, Begin(l, times[i])) || !slices.Equal(n, again) || missed != late || at != then || ok != yes {
			t.Errorf("%+v at %d", l, times[i])
		}
	}
}

// shorter is tasks with jobs that run shorter than they may, or just as long, or would run longer: those that begin at a time, and those that are there.
func shorter(s *state, l []api.Live, now int, there bool) []api.Live {
	l = Begin(l, now)
	for i := range l {
		j := &l[i].J
		if j.On && (there || j.Rel == now) {
			j.D = s.draw(j.Ran+1, min(j.D, j.C))
		}
	}
	return l
}

// P12.4: where Look tells yes no mandatory job is missed till then, either, if jobs run shorter; and nobody must by then.
func TestShorterJobsMissNothing(t *testing.T) {
	s := state(4)
	runs := 0
	drawn(20000, func(l []api.Live, now int) {
		end, ok := Look(l, now)
		if !ok || end == now {
			return
		}
		for range 3 {
			runs++
			x := l
			for at := now; at < end; at++ {
				then, missed := Step(shorter(&s, x, at, at == now), at)
				if missed {
					t.Fatalf("%+v: %d from %d on, but one is missed at %d", l, end, now, at)
				}
				x = then
			}
			if !Idle(x) {
				t.Fatalf("%+v: %d from %d on, but not then: %+v", l, end, now, x)
			}
		}
	})
	if runs < 9000 {
		t.Errorf("%d", runs)
	}
}

// fixes are tasks at their periods.
func fixes(l []api.Live) []api.Fix {
	var f []api.Fix
	for _, x := range l {
		f = append(f, api.Fix{S: x.S, P: x.P})
	}
	return f
}

// missedBy tells whether a mandatory job is missed in so many times from now on.
func missedBy(l []api.Live, now, times int) bool {
	for n := range times {
		then, missed := Step(l, now+n)
		if missed {
			return true
		}
		l = then
	}
	return false
}

// P12.4: where all are idle, and at their periods pass, none is missed; of others some are.
func TestWhatPassesIsNeverMissed(t *testing.T) {
	passed, failed := 0, 0
	drawn(12000, func(l []api.Live, now int) {
		if !Idle(l) || len(l) < 2 {
			return
		}
		pass := demand.Test(fixes(l))
		switch missed := missedBy(l, now, 700); {
		case pass && missed:
			t.Errorf("%+v passes, and one is missed from %d on", l, now)
		case pass:
			passed++
		case missed:
			failed++
		}
	})
	if passed < 700 || failed < 100 {
		t.Errorf("%d and %d", passed, failed)
	}
}

// P12.4: the same of two short ones that nearly fill the time, from each place of theirs on, and whichever begins first.
func TestWhatJustPassesIsNeverMissed(t *testing.T) {
	passed := 0
	for c := 1; c <= 6; c++ {
		for p := c + 1; p <= 9; p++ {
			for d := 1; d <= 6; d++ {
				for q := d + 1; q <= 9; q++ {
					for _, w := range [][2]int{{1, 1}, {1, 2}, {2, 3}, {2, 5}} {
						x, y := of(c, p, p, w[0], w[1], 0), firm(d, q)
						if !demand.Test([]api.Fix{{S: x, P: p}, {S: y, P: q}}) {
							continue
						}
						passed++
						for n := range w[1] {
							for by := range q {
								l := list(next(x, p, 60, n), next(y, q, 60+by, 0))
								if missedBy(l, 60, 2*p*q) {
									t.Errorf("%+v", l)
								}
							}
						}
					}
				}
			}
		}
	}
	if passed < 300 {
		t.Errorf("%d", passed)
	}
}
