package task

import (
	"math"
	"math/bits"
	"slices"
	"testing"

	"fusee/api"
)

// The limits and fates are told by their numbers, so that a test fails if one of them is taken for another.
const (
	last       = 549755813888
	clock      = 1099511627776
	longest    = 48
	remembered = 60

	runs   = 0
	done   = 1
	cut    = 2
	missed = 3
)

// words holds which jobs of a window are mandatory: by k, and then by m.
var words = [][]string{
	{"1"},
	{"10", "11"},
	{"100", "110", "111"},
	{"1000", "1010", "1110", "1111"},
	{"10000", "10100", "11010", "11110", "11111"},
	{"100000", "100100", "101010", "110110", "111110", "111111"},
}

// near are numbers at the edges of all fields, and far beyond them.
var near = []int{
	math.MinInt, math.MinInt + 1, math.MinInt + 48, -1 << 62, -clock - 1, -last - 1, -last, -1 << 32, -256, -49, -20, -2, -1, 0, 1, 2, 3, 4, 5, 6, 7, 8, 9, 10, 11, 12, 14, 15, 16, 17, 19, 20, 21, 22,
	47, 48, 49, 58, 59, 60, 61, 62, 63, 64, 65, 99, 100, 101, 147, 148, 149, 256, 266, 1 << 31, 1 << 32, 1<<32 + 10, last - 1, last, last + 1, last + 47, last + 48, last + 49, clock - 20, clock - 10, clock - 1, clock, clock + 1, 1 << 62, math.MaxInt - 48, math.MaxInt - 1, math.MaxInt,
}

// few are some of them, for two fields at a time.
var few = []int{math.MinInt, -1, 0, 1, 2, 10, 11, 20, 21, 48, 49, 60, 61, last, last + 1, clock, math.MaxInt}

// of is a description of six numbers.
func of(c, t, high, m, k, e int) api.Spec {
	return api.Spec{C: c, T: t, Max: high, M: m, K: k, E: e}
}

// one is the chapter's.
var one = of(2, 10, 20, 1, 2, 3)

// good may all be: they stand at the edges and between.
var good = []api.Spec{
	one, of(1, 1, 1, 1, 1, 0), of(1, 1, 48, 1, 6, 8), of(6, 6, 6, 6, 6, 0), of(6, 47, 48, 5, 6, 7), of(3, 17, 17, 2, 5, 0), of(4, 5, 20, 3, 5, 1), of(5, 48, 48, 1, 3, 8),
}

// bad may none of them be.
var bad = []api.Spec{
	{},
	of(0, 10, 20, 1, 2, 3), of(7, 10, 20, 1, 2, 3), of(3, 2, 20, 1, 2, 3), of(2, 21, 20, 1, 2, 3), of(2, 10, 49, 1, 2, 3),
	of(2, 10, 20, 0, 2, 3), of(2, 10, 20, 3, 2, 3), of(2, 10, 20, 1, 7, 3), of(2, 10, 20, 1, 2, -1), of(2, 10, 20, 1, 2, 9), of(2, 10, 20, 1, 2, 0),
	of(-2, 10, 20, 1, 2, 3), of(2, -10, 20, 1, 2, 3), of(2, 10, -20, 1, 2, 3), of(2, 10, 20, -1, 2, 3), of(2, 10, 20, 1, -2, 3),
	of(math.MaxInt, 10, 20, 1, 2, 3), of(math.MinInt, 10, 20, 1, 2, 3), of(2, math.MinInt, 20, 1, 2, 3), of(2, math.MinInt, math.MaxInt, 1, 2, 3), of(2, 10, math.MaxInt, 1, 2, 3),
	of(2, 10, 20, math.MinInt, 2, 3), of(2, 10, 20, 1, math.MaxInt, 3), of(2, 10, 20, 1, 2, math.MinInt), of(2, 10, 20, 1, 2, math.MaxInt),
}

// rests is a task whose last job is over, of a number of jobs that are; all of them good.
func rests(s api.Spec, at, n int) api.Task {
	return api.Task{ID: 3, S: s, P: s.Max, Next: s.T, At: at, N: n, H: allGood(n), Kept: true}
}

// works is a task whose job, the one with the number n, goes on.
func works(s api.Spec, rel, due, n, d, ran int) api.Task {
	x := rests(s, due, n)
	x.N = n + 1
	x.J = api.Job{On: true, J: n, Rel: rel, Due: due, Mand: refMand(s, n), C: s.C, D: d, Ran: ran}
	return x
}

// allGood are the last of so many good outcomes.
func allGood(n int) api.Ring {
	n = min(n, remembered)
	return api.Ring{N: n, B: 1<<n - 1}
}

// ints are a task's numbers, each to be set by itself.
func ints(x *api.Task) []*int {
	return []*int{
		&x.ID, &x.S.C, &x.S.T, &x.S.Max, &x.S.M, &x.S.K, &x.S.E, &x.P, &x.Next, &x.At, &x.N,
		&x.J.J, &x.J.Rel, &x.J.Due, &x.J.C, &x.J.D, &x.J.Ran, &x.H.N,
	}
}

// size is how many there are of them.
const size = 18

// yesNo are a task's fields of yes and no.
func yesNo(x *api.Task) []*bool {
	return []*bool{&x.J.On, &x.J.Mand, &x.Kept}
}

// bases are tasks that may be at a time, and that time.
func bases() ([]api.Task, []int) {
	var l []api.Task
	var times []int
	add := func(x api.Task, now int) {
		l = append(l, x)
		times = append(times, now)
	}
	for _, s := range good {
		for _, n := range []int{0, 1, 58, 59, 60, 61, 1000, last - 1} {
			add(rests(s, 100, n), 100)
			add(rests(s, 148, n), 100)
			add(works(s, 99, 148, n, 1, 0), 100)
			add(works(s, 0, 100, n, s.C+1, s.C-1), 100)
			add(works(s, last-1, last+47, n, s.C, 0), last)
		}
		add(rests(s, last, last), last)
		add(rests(s, 0, 0), 0)
	}
	for i := range l {
		// All kinds of outcomes, of periods between, and both of Kept.
		l[i].H.B &= uint64(i) * 0x9e3779b97f4a7c15
		l[i].Next = l[i].S.T + i%(l[i].S.Max-l[i].S.T+1)
		l[i].P = 1 + i*7%longest
		l[i].ID = []int{0, 1, 65535, last}[i%4]
		l[i].Kept = i%3 != 0
	}
	return l, times
}

// state is where drawing stands; each test that draws begins anew.
type state uint64

func (s *state) draw(low, high int) int {
	*s = *s*6364136223846793005 + 1442695040888963407
	return low + int(*s>>33)%(high-low+1)
}

// The references below say by the document's words what is so, without the layers below.

func refSpec(s api.Spec) bool {
	return s.C >= 1 && s.C <= 6 && s.C <= s.T && s.T <= s.Max && s.Max <= 48 &&
		s.M >= 1 && s.M <= s.K && s.K <= 6 && s.E >= 0 && s.E <= 8 && (s.E != 0 || s.T == s.Max)
}

// refMand tells whether a job is mandatory, of a description that may be, and a number that may be.
func refMand(s api.Spec, n int) bool { return words[s.K-1][s.M-1][n%s.K] == '1' }

// refJob tells whether a job may be of a description that may be.
func refJob(s api.Spec, j api.Job) bool {
	if !j.On {
		return j.J == 0 && j.Rel == 0 && j.Due == 0 && !j.Mand && j.C == 0 && j.D == 0 && j.Ran == 0
	}
	return j.J >= 0 && j.J <= clock && j.Rel >= 0 && j.Rel < j.Due && j.Due <= clock && j.Mand == refMand(s, j.J) &&
		j.C == s.C && j.D >= 1 && j.D <= 20 && j.Ran >= 0 && j.Ran < j.C && j.Ran < j.D
}

func refRing(h api.Ring) bool {
	return h.N >= 0 && h.N <= remembered && bits.Len64(h.B) <= h.N
}

// refPut puts an outcome behind the others, as a list.
func refPut(h api.Ring, well bool) api.Ring {
	var outcomes []bool
	if refRing(h) {
		outcomes = listed(h)
	}
	return ringOf(append(outcomes, well))
}

// listed are the outcomes of a ring that may be, the first one first.
func listed(h api.Ring) []bool {
	var l []bool
	for i := h.N - 1; i >= 0; i-- {
		l = append(l, h.B>>i&1 == 1)
	}
	return l
}

// ringOf is a ring of the last outcomes.
func ringOf(l []bool) api.Ring {
	if len(l) > remembered {
		l = l[len(l)-remembered:]
	}
	h := api.Ring{N: len(l)}
	for i, well := range l {
		if well {
			h.B |= 1 << (len(l) - 1 - i)
		}
	}
	return h
}

func refMay(x api.Task, now int) bool {
	switch {
	case x.ID < 0, x.ID > last, !refSpec(x.S), x.Next < x.S.T, x.Next > x.S.Max, x.P < 1, x.P > longest, !refRing(x.H):
		return false
	case now < 0, now > last, x.At < now, x.At > now+longest, x.N < 0, x.N > last, !refJob(x.S, x.J):
		return false
	}
	if !x.J.On {
		return x.H.N == x.N || x.N > remembered && x.H.N == remembered
	}
	over := x.J.J
	return x.J.Rel < now && x.J.Due == x.At && x.N == over+1 && (x.H.N == over || over > remembered && x.H.N == remembered)
}

func refNew(id int, s api.Spec, p, now int) (api.Task, bool) {
	if id < 0 || id > last || !refSpec(s) || p < s.T || p > s.Max || now < 0 || now > last {
		return api.Task{}, false
	}
	return api.Task{ID: id, S: s, P: p, Next: p, At: now, N: 0, J: api.Job{}, H: api.Ring{}, Kept: true}, true
}

func refTurn(x api.Task, s api.Spec, p int) (api.Task, bool) {
	if !refSpec(s) || s.C != x.S.C || s.M != x.S.M || s.K != x.S.K || p < s.T || p > s.Max {
		return x, false
	}
	return api.Task{ID: x.ID, S: s, P: x.P, Next: p, At: x.At, N: x.N, J: x.J, H: x.H, Kept: x.Kept}, true
}

func refEnd(x api.Task, now int) (api.Task, int) {
	if !x.J.On || now < x.J.Due {
		return x, runs
	}
	return api.Task{ID: x.ID, S: x.S, P: x.P, Next: x.Next, At: x.At, N: x.N, J: api.Job{}, H: refPut(x.H, false), Kept: x.Kept}, missed
}

func refBegin(x api.Task, now, d int) (api.Task, bool) {
	if x.J.On || now != x.At || !refSpec(x.S) || x.N < 0 || x.N > clock || now < 0 || x.Next < 1 || x.Next > clock || now > clock-x.Next || d < 1 || d > 20 {
		return x, false
	}
	j := api.Job{On: true, J: x.N, Rel: now, Due: now + x.Next, Mand: refMand(x.S, x.N), C: x.S.C, D: d}
	kept := x.Kept
	if d > x.S.C {
		kept = false
	}
	return api.Task{ID: x.ID, S: x.S, P: x.Next, Next: x.Next, At: now + x.Next, N: x.N + 1, J: j, H: x.H, Kept: kept}, true
}

// refReaches tells whether one more than n is m, or more; of the greatest number, too, whose one more is beyond 64 bits.
func refReaches(n, m int) bool { return n >= m || n+1 == m }

func refRun(x api.Task) (api.Task, int) {
	if !x.J.On {
		return x, missed
	}
	after := api.Task{ID: x.ID, S: x.S, P: x.P, Next: x.Next, At: x.At, N: x.N, Kept: x.Kept}
	switch {
	case refReaches(x.J.Ran, x.J.D):
		after.H = refPut(x.H, true)
		return after, done
	case refReaches(x.J.Ran, x.J.C):
		after.H = refPut(x.H, false)
		return after, cut
	}
	after.H, after.J = x.H, x.J
	after.J.Ran = x.J.Ran + 1
	return after, runs
}

func refLive(x api.Task) api.Live {
	j := x.J
	j.D = j.C
	return api.Live{S: x.S, J: j, P: x.Next, At: x.At, N: x.N}
}

// mayAs fails if a task may be, or not, otherwise than by the words.
func mayAs(t *testing.T, x api.Task, now int) {
	t.Helper()
	if want := refMay(x, now); May(x, now) != want {
		t.Errorf("May(%+v, %d): %v", x, now, !want)
	}
}

// newAs fails if a new task is another one than by the words, and tells whether there is one.
func newAs(t *testing.T, id int, s api.Spec, p, now int) bool {
	t.Helper()
	x, ok := New(id, s, p, now)
	if want, wanted := refNew(id, s, p, now); x != want || ok != wanted {
		t.Errorf("New(%d, %+v, %d, %d): %+v %v, not %+v %v", id, s, p, now, x, ok, want, wanted)
	}
	return ok
}

// turnAs fails if a task turns otherwise than by the words, and tells whether it does.
func turnAs(t *testing.T, x api.Task, s api.Spec, p int) bool {
	t.Helper()
	y, ok := Turn(x, s, p)
	if want, wanted := refTurn(x, s, p); y != want || ok != wanted {
		t.Errorf("Turn(%+v, %+v, %d): %+v %v, not %+v %v", x, s, p, y, ok, want, wanted)
	}
	return ok
}

// endAs fails if a task at a time is told otherwise than by the words.
func endAs(t *testing.T, x api.Task, now int) int {
	t.Helper()
	y, f := End(x, now)
	if want, g := refEnd(x, now); y != want || f != g {
		t.Errorf("End(%+v, %d): %+v %d, not %+v %d", x, now, y, f, want, g)
	}
	return f
}

// beginAs fails if a task begins otherwise than by the words, and tells whether it does.
func beginAs(t *testing.T, x api.Task, now, d int) bool {
	t.Helper()
	y, ok := Begin(x, now, d)
	if want, wanted := refBegin(x, now, d); y != want || ok != wanted {
		t.Errorf("Begin(%+v, %d, %d): %+v %v, not %+v %v", x, now, d, y, ok, want, wanted)
	}
	return ok
}

// runAs fails if a task runs otherwise than by the words.
func runAs(t *testing.T, x api.Task) int {
	t.Helper()
	y, f := Run(x)
	if want, g := refRun(x); y != want || f != g {
		t.Errorf("Run(%+v): %+v %d, not %+v %d", x, y, f, want, g)
	}
	return f
}

// liveAs fails if a task is looked on otherwise than by the words. Where there is no job the words say nothing of how long it would run, if it is not a zero one.
func liveAs(t *testing.T, x api.Task) {
	t.Helper()
	got, want := Live(x), refLive(x)
	if !x.J.On && x.J.C != 0 {
		got.J.D, want.J.D = 0, 0
	}
	if x.J.On && x.J.C != x.S.C && got.J.D == x.S.C {
		got.J.D = x.J.C
	}
	if got != want {
		t.Errorf("Live(%+v): %+v, not %+v", x, got, want)
	}
}

// holds fails if any call but New and Turn tells of a task, at a time, otherwise than by the words.
func holds(t *testing.T, x api.Task, now int) {
	t.Helper()
	mayAs(t, x, now)
	endAs(t, x, now)
	for _, d := range []int{1, x.S.C, x.S.C + 1} {
		beginAs(t, x, now, d)
	}
	runAs(t, x)
	liveAs(t, x)
	turnAs(t, x, x.S, x.Next)
}

// P15.1 and P15.4: the chapter's example: a new one at 5 begins its job 0 at 5.
func TestExample(t *testing.T) {
	x, ok := New(3, one, 10, 5)
	if x != (api.Task{ID: 3, S: one, P: 10, Next: 10, At: 5, Kept: true}) || !ok || !May(x, 5) {
		t.Fatalf("New: %+v %v", x, ok)
	}
	y, ok := Begin(x, 5, 2)
	if y != (api.Task{ID: 3, S: one, P: 10, Next: 10, At: 15, N: 1, J: api.Job{On: true, Rel: 5, Due: 15, Mand: true, C: 2, D: 2}, Kept: true}) || !ok || !May(y, 6) {
		t.Fatalf("Begin: %+v %v", y, ok)
	}
}

// P15.1: the edges of a task without a job, told one by one.
func TestMayAtTheEdges(t *testing.T) {
	base := api.Task{ID: 3, S: one, P: 12, Next: 15, At: 110, N: 4, H: api.Ring{N: 4, B: 5}, Kept: true}
	for _, c := range []struct {
		i, n int
		want bool
	}{
		{0, 0, true}, {0, -1, false}, {0, last, true}, {0, last + 1, false}, {0, math.MaxInt, false}, {0, math.MinInt, false},
		{7, 1, true}, {7, 0, false}, {7, 48, true}, {7, 49, false}, {7, -1, false}, {7, 9, true}, {7, 21, true}, {7, math.MaxInt, false}, {7, math.MinInt, false},
		{8, 10, true}, {8, 9, false}, {8, 20, true}, {8, 21, false}, {8, 1, false}, {8, 48, false}, {8, -10, false}, {8, math.MaxInt, false},
		{9, 100, true}, {9, 99, false}, {9, 148, true}, {9, 149, false}, {9, -100, false}, {9, 0, false}, {9, math.MaxInt, false}, {9, math.MinInt, false},
		{10, 3, false}, {10, 5, false}, {10, 0, false}, {10, -4, false}, {10, 60, false}, {10, math.MaxInt, false},
		{17, 3, false}, {17, 5, false}, {17, 0, false}, {17, -1, false}, {17, 60, false}, {17, 61, false}, {17, math.MinInt, false},
		{1, 3, true}, {1, 0, false}, {1, 7, false}, {2, 11, true}, {2, 21, false}, {3, 15, true}, {3, 14, false}, {3, 49, false}, {4, 2, true}, {4, 3, false}, {5, 6, true}, {5, 7, false}, {6, 8, true}, {6, 9, false}, {6, 0, false}, {6, -1, false},
		// a job that is not there, but that something of is told
		{11, 1, false}, {12, 1, false}, {13, 1, false}, {14, 2, false}, {15, 1, false}, {16, 1, false},
	} {
		x := base
		*ints(&x)[c.i] = c.n
		if May(x, 100) != c.want {
			t.Errorf("May(%+v, 100): %v", x, !c.want)
		}
	}
	for _, c := range []struct {
		now, at int
		want    bool
	}{
		{0, 0, true}, {0, 48, true}, {0, 49, false}, {-1, -1, false}, {-1, 0, false}, {-1, 47, false}, {last, last, true}, {last, last + 48, true}, {last, last + 49, false}, {last, last - 1, false}, {last + 1, last + 1, false}, {last + 1, last + 2, false},
		{62, 110, true}, {61, 110, false}, {110, 110, true}, {111, 110, false}, {math.MaxInt, math.MaxInt, false}, {math.MaxInt, math.MinInt + 3, false}, {math.MinInt, math.MinInt, false}, {math.MaxInt - 48, math.MaxInt, false},
	} {
		x := base
		x.At = c.at
		if May(x, c.now) != c.want {
			t.Errorf("May(%+v, %d): %v", x, c.now, !c.want)
		}
	}
	base.Kept = false
	if !May(base, 100) {
		t.Errorf("May(%+v, 100): no", base)
	}
	base.J.Mand = true
	if May(base, 100) {
		t.Errorf("May(%+v, 100)", base)
	}
}

// P15.1: the edges of a task with a job, told one by one.
func TestMayWithAJobAtTheEdges(t *testing.T) {
	base := api.Task{
		ID: 3, S: of(4, 10, 20, 2, 2, 3), P: 12, Next: 15, At: 110, N: 5, H: api.Ring{N: 4, B: 5}, Kept: true,
		J: api.Job{On: true, J: 4, Rel: 98, Due: 110, Mand: true, C: 4, D: 3, Ran: 1},
	}
	for _, c := range []struct {
		i, n int
		want bool
	}{
		{9, 111, false}, {9, 109, false}, {13, 111, false}, {13, 109, false}, {13, 98, false}, {13, 97, false},
		{10, 4, false}, {10, 6, false}, {10, 0, false}, {11, 3, false}, {11, 5, false}, {11, -1, false}, {11, 0, false},
		{12, 99, true}, {12, 100, false}, {12, 101, false}, {12, 0, true}, {12, -1, false}, {12, 109, false},
		{17, 3, false}, {17, 5, false}, {17, 6, false}, {17, 0, false},
		{14, 3, false}, {14, 5, false}, {15, 1, false}, {15, 2, true}, {15, 20, true}, {15, 21, false}, {15, 0, false}, {16, 0, true}, {16, 2, true}, {16, 3, false}, {16, -1, false},
		{0, last, true}, {0, last + 1, false}, {0, 0, true}, {0, -1, false}, {7, 1, true}, {7, 0, false}, {7, 48, true}, {7, 49, false}, {8, 9, false}, {8, 10, true}, {8, 20, true}, {8, 21, false},
	} {
		x := base
		*ints(&x)[c.i] = c.n
		if May(x, 100) != c.want {
			t.Errorf("May(%+v, 100): %v", x, !c.want)
		}
	}
	// Due and At, N and J's number, both others; the time up to when the job must have ended, and one beyond.
	for _, c := range []struct {
		at, due, n, j, outcomes, now int
		want                         bool
	}{
		{111, 111, 5, 4, 4, 100, true}, {109, 109, 5, 4, 4, 100, true}, {148, 148, 5, 4, 4, 100, true}, {149, 149, 5, 4, 4, 100, false}, {100, 100, 5, 4, 4, 100, true}, {99, 99, 5, 4, 4, 100, false},
		{110, 110, 4, 3, 3, 100, true}, {110, 110, 6, 5, 5, 100, true}, {110, 110, 1, 0, 0, 100, true}, {110, 110, 0, -1, 0, 100, false}, {110, 110, 0, 0, 0, 100, false}, {110, 110, 1, 0, 1, 100, false},
		{110, 110, 4, 3, 4, 100, false}, {110, 110, 6, 5, 4, 100, false}, {110, 110, 5, 4, 4, 110, true}, {110, 110, 5, 4, 4, 111, false}, {110, 110, 5, 4, 4, 99, true}, {110, 110, 5, 4, 4, 98, false}, {110, 110, 5, 4, 4, 97, false},
	} {
		x := base
		x.At, x.J.Due, x.N, x.J.J, x.H = c.at, c.due, c.n, c.j, api.Ring{N: c.outcomes}
		if May(x, c.now) != c.want {
			t.Errorf("May(%+v, %d): %v", x, c.now, !c.want)
		}
	}
	base.J.Mand = false
	if May(base, 100) {
		t.Errorf("May(%+v, 100)", base)
	}
	base.J.On, base.J.Mand = false, true
	if May(base, 100) {
		t.Errorf("May(%+v, 100)", base)
	}
}

// P15.1: outcomes as many as jobs that are over, one more, and one fewer, with a job and without one, also where more jobs are over than outcomes are kept.
func TestOutcomesAsManyAsJobsThatAreOver(t *testing.T) {
	for _, over := range []int{0, 1, 2, 3, 30, 57, 58, 59, 60, 61, 62, 63, 64, 119, 120, 121, 1000, 65535, 1 << 32, last - 1, last} {
		for outcomes := -1; outcomes <= 65; outcomes++ {
			want := outcomes == min(over, 60)
			x := rests(one, 110, over)
			x.H = api.Ring{N: outcomes}
			if May(x, 100) != want {
				t.Errorf("May of %d over, %d outcomes: %v", over, outcomes, !want)
			}
			x = works(one, 99, 110, over, 2, 1)
			x.H = api.Ring{N: outcomes}
			if want := want && over < last; May(x, 100) != want {
				t.Errorf("May with a job of %d over, %d outcomes: %v", over, outcomes, !want)
			}
		}
	}
	for n := range 62 {
		for _, b := range []uint64{0, 1, 1 << max(n-1, 0), 1<<n - 1, 1 << n, 1<<n + 1, 1 << 59, 1 << 60, 1 << 61, 1 << 63, math.MaxUint64} {
			x := rests(one, 110, n)
			x.H.B = b
			mayAs(t, x, 100)
			x = works(one, 99, 110, n, 2, 1)
			x.H.B = b
			mayAs(t, x, 100)
		}
	}
}

// P15.1: N of 0, of 2^39, and one beyond each.
func TestNumbersOfTheNextJob(t *testing.T) {
	for n, want := range map[int]bool{0: true, -1: false, last: true, last - 1: true, last + 1: false, clock: false, clock + 1: false} {
		x := rests(one, 110, max(n, 0))
		x.N = n
		if May(x, 100) != want {
			t.Errorf("May(%+v, 100): %v", x, !want)
		}
		x = works(one, 99, 110, max(n-1, 0), 2, 1)
		x.N = n
		if want := want && n > 0; May(x, 100) != want {
			t.Errorf("May(%+v, 100): %v", x, !want)
		}
	}
}

// P15.1: new ones at the edges, told one by one.
func TestNewAsWritten(t *testing.T) {
	for i, c := range []struct {
		id     int
		s      api.Spec
		p, now int
		want   bool
	}{
		{0, one, 10, 0, true}, {1, one, 20, 7, true}, {2, one, 15, last, true}, {last, one, 10, 5, true},
		{-1, one, 10, 5, false}, {last + 1, one, 10, 5, false}, {math.MaxInt, one, 10, 5, false}, {math.MinInt, one, 10, 5, false},
		{1, one, 9, 5, false}, {1, one, 21, 5, false}, {1, one, 0, 5, false}, {1, one, -10, 5, false}, {1, one, math.MaxInt, 5, false}, {1, one, math.MinInt, 5, false}, {1, one, 1<<32 + 10, 5, false},
		{1, one, 10, -1, false}, {1, one, 10, last + 1, false}, {1, one, 10, math.MaxInt, false}, {1, one, 10, math.MinInt, false},
		{1, of(6, 6, 6, 6, 6, 0), 6, 5, true}, {1, of(6, 6, 6, 6, 6, 0), 5, 5, false}, {1, of(6, 6, 6, 6, 6, 0), 7, 5, false},
		{1, of(1, 1, 48, 1, 6, 8), 1, 5, true}, {1, of(1, 1, 48, 1, 6, 8), 0, 5, false}, {1, of(1, 1, 48, 1, 6, 8), 48, 5, true}, {1, of(1, 1, 48, 1, 6, 8), 49, 5, false}, {1, of(1, 1, 49, 1, 6, 8), 49, 5, false},
	} {
		want := api.Task{}
		if c.want {
			want = api.Task{ID: c.id, S: c.s, P: c.p, Next: c.p, At: c.now, Kept: true}
		}
		x, ok := New(c.id, c.s, c.p, c.now)
		if x != want || ok != c.want {
			t.Errorf("%d: New(%d, %+v, %d, %d): %+v %v", i, c.id, c.s, c.p, c.now, x, ok)
		}
		if c.want && !May(x, c.now) {
			t.Errorf("%d: May(%+v, %d): no", i, x, c.now)
		}
	}
}

// P15.1: new ones of all numbers near the edges, and far beyond them, of descriptions that may be, and that may not.
func TestNewByItsMeaning(t *testing.T) {
	yes, no := 0, 0
	for _, s := range good {
		for _, p := range near {
			for _, now := range near {
				for _, id := range []int{0, 1, -1, last, last + 1} {
					if newAs(t, id, s, p, now) {
						yes++
					} else {
						no++
					}
				}
				newAs(t, now, s, p, 5)
				newAs(t, now, s, s.T, p)
			}
		}
		for p := -2; p <= 51; p++ {
			newAs(t, 1, s, p, 5)
		}
		for i := range 6 {
			for _, n := range near {
				x := api.Task{S: s}
				*ints(&x)[1+i] = n
				for _, p := range []int{s.T, s.Max, x.S.T, x.S.Max} {
					newAs(t, 1, x.S, p, 5)
				}
			}
		}
	}
	for _, s := range bad {
		for _, p := range []int{s.C, s.T, s.Max, 0, 1, 10, 20, 48, math.MaxInt, math.MinInt} {
			if x, ok := New(1, s, p, 5); ok || x != (api.Task{}) {
				t.Errorf("New(1, %+v, %d, 5): %+v %v", s, p, x, ok)
			}
		}
	}
	if yes < 1000 || no < 1000 {
		t.Errorf("%d and %d", yes, no)
	}
}

// P15.2: turns, told one by one: by the same description, by other periods, another elasticity, another C, M or K, and by one that may not be.
func TestTurnAsWritten(t *testing.T) {
	s := of(2, 10, 20, 2, 5, 3)
	for i, c := range []struct {
		s    api.Spec
		p    int
		want bool
	}{
		{s, 10, true}, {s, 20, true}, {s, 15, true}, {s, 12, true}, {s, 9, false}, {s, 21, false}, {s, 0, false}, {s, -10, false}, {s, math.MaxInt, false}, {s, math.MinInt, false},
		// other periods: those of its own hold, and the old ones do not
		{of(2, 12, 30, 2, 5, 3), 12, true}, {of(2, 12, 30, 2, 5, 3), 30, true}, {of(2, 12, 30, 2, 5, 3), 11, false}, {of(2, 12, 30, 2, 5, 3), 31, false}, {of(2, 12, 30, 2, 5, 3), 10, false}, {of(2, 2, 48, 2, 5, 3), 2, true}, {of(2, 2, 48, 2, 5, 3), 48, true}, {of(2, 2, 48, 2, 5, 3), 1, false}, {of(2, 2, 48, 2, 5, 3), 49, false},
		{of(2, 30, 40, 2, 5, 3), 30, true}, {of(2, 30, 40, 2, 5, 3), 20, false}, {of(2, 3, 4, 2, 5, 3), 4, true}, {of(2, 3, 4, 2, 5, 3), 10, false},
		// another elasticity
		{of(2, 10, 20, 2, 5, 8), 10, true}, {of(2, 10, 20, 2, 5, 1), 20, true}, {of(2, 10, 10, 2, 5, 0), 10, true}, {of(2, 20, 20, 2, 5, 0), 20, true}, {of(2, 10, 20, 2, 5, 0), 10, false}, {of(2, 10, 20, 2, 5, 9), 10, false}, {of(2, 10, 20, 2, 5, -1), 10, false},
		// another C, M or K
		{of(1, 10, 20, 2, 5, 3), 10, false}, {of(3, 10, 20, 2, 5, 3), 10, false}, {of(2, 10, 20, 1, 5, 3), 10, false}, {of(2, 10, 20, 3, 5, 3), 10, false}, {of(2, 10, 20, 2, 4, 3), 10, false}, {of(2, 10, 20, 2, 6, 3), 10, false}, {of(2, 10, 20, 3, 6, 3), 10, false}, {of(3, 10, 20, 2, 4, 3), 10, false},
		// such as may not be
		{api.Spec{}, 10, false}, {api.Spec{}, 0, false}, {of(2, 1, 20, 2, 5, 3), 10, false}, {of(2, 10, 49, 2, 5, 3), 10, false}, {of(2, 20, 10, 2, 5, 3), 15, false}, {of(2, 20, 10, 2, 5, 3), 10, false}, {of(2, math.MinInt, math.MaxInt, 2, 5, 3), 10, false},
	} {
		for _, x := range []api.Task{rests(s, 110, 3), works(s, 99, 110, 7, 2, 1), works(s, 90, 110, 70, 20, 0)} {
			want := x
			if c.want {
				want.S, want.Next = c.s, c.p
			}
			y, ok := Turn(x, c.s, c.p)
			if y != want || ok != c.want {
				t.Errorf("%d: Turn(%+v, %+v, %d): %+v %v", i, x, c.s, c.p, y, ok)
			}
			if !May(x, 100) || !May(y, 100) {
				t.Errorf("%d: May(%+v, 100), May(%+v, 100): no", i, x, y)
			}
		}
	}
}

// P15.2: turns by all descriptions and periods near the edges, of tasks that may be, and that may not.
func TestTurnByItsMeaning(t *testing.T) {
	yes, no := 0, 0
	l, _ := bases()
	for n, x := range l {
		for _, s := range slices.Concat(good, bad) {
			for _, p := range []int{s.T, s.Max, s.T - 1, s.Max + 1, x.Next, math.MaxInt} {
				turnAs(t, x, s, p)
				// The same with all that must be the same.
				own := s
				own.C, own.M, own.K = x.S.C, x.S.M, x.S.K
				if turnAs(t, x, own, p) {
					yes++
				} else {
					no++
				}
			}
		}
		if n%3 != 0 {
			continue
		}
		for i := range 6 {
			for _, number := range near {
				y := x
				*ints(&y)[1+i] = number
				for _, p := range []int{x.S.T, x.S.Max, y.S.T, y.S.Max, x.Next} {
					turnAs(t, x, y.S, p)
					turnAs(t, y, x.S, p)
					turnAs(t, y, y.S, p)
				}
			}
		}
		for _, p := range near {
			turnAs(t, x, x.S, p)
		}
	}
	if yes < 1000 || no < 1000 {
		t.Errorf("%d and %d", yes, no)
	}
}

// P15.2: Turn goes by the description alone, also of tasks that may not be in anything else.
func TestTurnOfWrongTasks(t *testing.T) {
	far := of(2, 12, 30, 1, 2, 8)
	x := api.Task{ID: -1, S: of(2, -5, 99, 1, 2, 77), P: 99, Next: -3, At: math.MinInt, N: -7, J: api.Job{J: 4, Mand: true, Ran: 9}, H: api.Ring{N: 99, B: 5}}
	want := x
	want.S, want.Next = far, 30
	if y, ok := Turn(x, far, 30); y != want || !ok {
		t.Errorf("Turn(%+v): %+v %v", x, y, ok)
	}
	if y, ok := Turn(x, x.S, 50); y != x || ok {
		t.Errorf("Turn(%+v): %+v %v", x, y, ok)
	}
	zero := api.Task{}
	for _, s := range good {
		if y, ok := Turn(zero, s, s.T); y != zero || ok {
			t.Errorf("Turn of a zero one: %+v %v", y, ok)
		}
	}
}

// P15.3: ahead of when a job must have ended, at that, and behind it; of one that is there, that is done, and that is cut.
func TestEndAsWritten(t *testing.T) {
	base := api.Task{
		ID: 3, S: one, P: 12, Next: 15, At: 110, N: 5, H: api.Ring{N: 4, B: 13}, Kept: true,
		J: api.Job{On: true, J: 4, Rel: 98, Due: 110, Mand: true, C: 2, D: 3, Ran: 1},
	}
	gone := api.Task{ID: 3, S: one, P: 12, Next: 15, At: 110, N: 5, H: api.Ring{N: 5, B: 26}, Kept: true}
	for _, now := range []int{math.MinInt, -1, 0, 97, 98, 99, 108, 109} {
		if y, f := End(base, now); y != base || f != runs {
			t.Errorf("at %d: %+v %d", now, y, f)
		}
	}
	for _, now := range []int{110, 111, 112, 158, last, clock, math.MaxInt} {
		if y, f := End(base, now); y != gone || f != missed {
			t.Errorf("at %d: %+v %d", now, y, f)
		}
		// What is over is over but once.
		if y, f := End(gone, now); y != gone || f != runs {
			t.Errorf("at %d, once more: %+v %d", now, y, f)
		}
	}
	if !May(base, 110) || !May(gone, 110) {
		t.Errorf("May at 110: %v %v", May(base, 110), May(gone, 110))
	}
	// One that needs not run is missed, too, and one that is not Kept stays so.
	free := base
	free.J.Mand, free.Kept = false, false
	gone.Kept = false
	if y, f := End(free, 110); y != gone || f != missed {
		t.Errorf("End(%+v, 110): %+v %d", free, y, f)
	}
	// By job's Due, not by At.
	other := base
	other.At = 105
	if y, f := End(other, 105); y != other || f != runs {
		t.Errorf("End(%+v, 105): %+v %d", other, y, f)
	}
	for d, f := range map[int]int{2: done, 3: cut} {
		x := base
		x.J.D = d
		y, g := Run(x)
		if g != f {
			t.Fatalf("Run(%+v): %d", x, g)
		}
		for _, now := range []int{109, 110, 111, math.MaxInt} {
			if z, g := End(y, now); z != y || g != runs {
				t.Errorf("End(%+v, %d): %+v %d", y, now, z, g)
			}
		}
	}
}

// P15.3 and P15.5: of a ring that may not be an outcome is put as to a zero one; of one that is full the first one is no more.
func TestOutcomesArePut(t *testing.T) {
	for i, c := range []struct{ h, good, bad api.Ring }{
		{api.Ring{}, api.Ring{N: 1, B: 1}, api.Ring{N: 1}},
		{api.Ring{N: 2, B: 1}, api.Ring{N: 3, B: 3}, api.Ring{N: 3, B: 2}},
		{api.Ring{N: 59, B: 1<<59 - 1}, api.Ring{N: 60, B: 1<<60 - 1}, api.Ring{N: 60, B: 1<<60 - 2}},
		{api.Ring{N: 60, B: 1<<60 - 1}, api.Ring{N: 60, B: 1<<60 - 1}, api.Ring{N: 60, B: 1<<60 - 2}},
		{api.Ring{N: 60, B: 1 << 59}, api.Ring{N: 60, B: 1}, api.Ring{N: 60}},
		{api.Ring{N: 60, B: 1 << 58}, api.Ring{N: 60, B: 1<<59 + 1}, api.Ring{N: 60, B: 1 << 59}},
		{api.Ring{N: 61}, api.Ring{N: 1, B: 1}, api.Ring{N: 1}},
		{api.Ring{N: -1}, api.Ring{N: 1, B: 1}, api.Ring{N: 1}},
		{api.Ring{N: 2, B: 4}, api.Ring{N: 1, B: 1}, api.Ring{N: 1}},
		{api.Ring{B: 1}, api.Ring{N: 1, B: 1}, api.Ring{N: 1}},
		{api.Ring{N: math.MinInt, B: math.MaxUint64}, api.Ring{N: 1, B: 1}, api.Ring{N: 1}},
		{api.Ring{N: math.MaxInt, B: math.MaxUint64}, api.Ring{N: 1, B: 1}, api.Ring{N: 1}},
		{api.Ring{N: 64, B: math.MaxUint64}, api.Ring{N: 1, B: 1}, api.Ring{N: 1}},
	} {
		x := works(one, 99, 110, 5, 2, 1)
		x.H = c.h
		if y, f := Run(x); y.H != c.good || f != done || y.J != (api.Job{}) {
			t.Errorf("%d: done: %+v %d", i, y, f)
		}
		if y, f := End(x, 110); y.H != c.bad || f != missed || y.J != (api.Job{}) {
			t.Errorf("%d: missed: %+v %d", i, y, f)
		}
		x.J.D = 3
		if y, f := Run(x); y.H != c.bad || f != cut || y.J != (api.Job{}) {
			t.Errorf("%d: cut: %+v %d", i, y, f)
		}
		x.J.Ran = 0
		if y, f := Run(x); y.H != c.h || f != runs {
			t.Errorf("%d: runs: %+v %d", i, y, f)
		}
		if y, f := End(x, 109); y.H != c.h || f != runs {
			t.Errorf("%d: not missed: %+v %d", i, y, f)
		}
		x.J = api.Job{}
		if y, f := Run(x); y.H != c.h || f != missed {
			t.Errorf("%d: none: %+v %d", i, y, f)
		}
		if y, f := End(x, 110); y.H != c.h || f != runs {
			t.Errorf("%d: none at 110: %+v %d", i, y, f)
		}
	}
}

// P15.4: at At, and one beyond on each side; with a job that is there; with all kinds of d.
func TestBeginAsWritten(t *testing.T) {
	base := api.Task{ID: 3, S: of(3, 10, 20, 2, 5, 3), P: 12, Next: 15, At: 110, N: 7, H: api.Ring{N: 7, B: 13}, Kept: true}
	begun := api.Task{
		ID: 3, S: base.S, P: 15, Next: 15, At: 125, N: 8, H: base.H, Kept: true,
		J: api.Job{On: true, J: 7, Rel: 110, Due: 125, Mand: true, C: 3, D: 3},
	}
	for _, c := range []struct {
		d        int
		ok, kept bool
	}{{1, true, true}, {2, true, true}, {3, true, true}, {4, true, false}, {5, true, false}, {19, true, false}, {20, true, false}, {21, false, false}, {0, false, false}, {-1, false, false}, {-3, false, false}, {1 << 32, false, false}, {1<<32 + 3, false, false}, {math.MaxInt, false, false}, {math.MinInt, false, false}} {
		for _, kept := range []bool{true, false} {
			x, want := base, begun
			x.Kept, want.Kept, want.J.D = kept, kept && c.kept, c.d
			if !c.ok {
				want = x
			}
			if y, ok := Begin(x, 110, c.d); y != want || ok != c.ok {
				t.Errorf("Begin(%+v, 110, %d): %+v %v, not %+v", x, c.d, y, ok, want)
			}
		}
		for _, now := range []int{109, 111, 0, -1, -110, 125, 95, 122, math.MaxInt, math.MinInt, 1<<32 + 110} {
			if y, ok := Begin(base, now, c.d); y != base || ok {
				t.Errorf("Begin(%+v, %d, %d): %+v %v", base, now, c.d, y, ok)
			}
		}
		// With a job that is there, whether it must have ended or not.
		for _, due := range []int{109, 110, 111} {
			x := base
			x.J = api.Job{On: true, J: 6, Rel: 98, Due: due, C: 3, D: 2, Ran: 1}
			if y, ok := Begin(x, 110, c.d); y != x || ok {
				t.Errorf("Begin(%+v, 110, %d): %+v %v", x, c.d, y, ok)
			}
		}
	}
	if !May(base, 110) || !May(begun, 111) || May(begun, 110) {
		t.Errorf("May: %v %v %v", May(base, 110), May(begun, 111), May(begun, 110))
	}
}

// P15.4: which jobs begin: job 0, the greatest, and others; whether they are mandatory; at the ends of the time; and where there is none.
func TestBeginAtTheEdges(t *testing.T) {
	for i, c := range []struct {
		n, at, next int
		want        bool
	}{
		{0, 110, 15, true}, {1, 110, 15, true}, {2, 110, 15, true}, {last, 110, 15, true}, {last + 1, 110, 15, true}, {clock, 110, 15, true}, {clock - 1, 110, 15, true}, {clock + 1, 110, 15, false}, {-1, 110, 15, false}, {math.MaxInt, 110, 15, false}, {math.MinInt, 110, 15, false},
		{0, 0, 15, true}, {0, -1, 15, false}, {0, -1, 1, false}, {0, last, 20, true}, {0, last + 1, 20, true}, {0, clock - 20, 20, true}, {0, clock - 19, 20, false}, {0, clock - 1, 1, true}, {0, clock, 1, false}, {0, clock, 0, false}, {0, math.MaxInt, 15, false}, {0, math.MinInt, 15, false}, {0, math.MinInt, math.MaxInt, false}, {0, math.MaxInt, math.MinInt, false}, {0, math.MaxInt, math.MaxInt, false}, {0, math.MinInt, math.MinInt, false},
		// a period that may not be, but by which there is a job
		{0, 110, 1, true}, {0, 110, 0, false}, {0, 110, -1, false}, {0, 110, 9, true}, {0, 110, 21, true}, {0, 110, 49, true}, {0, 0, clock, true}, {0, 0, clock + 1, false}, {0, 1, clock, false}, {0, 110, math.MaxInt, false}, {0, 110, math.MinInt, false},
	} {
		for _, s := range []api.Spec{one, of(2, 10, 20, 2, 2, 3), of(2, 10, 20, 2, 5, 3)} {
			x := api.Task{ID: 3, S: s, P: 12, Next: c.next, At: c.at, N: c.n, H: allGood(max(c.n, 0)), Kept: true}
			want := x
			if c.want {
				want.P, want.At, want.N = c.next, c.at+c.next, c.n+1
				want.J = api.Job{On: true, J: c.n, Rel: c.at, Due: c.at + c.next, Mand: refMand(s, c.n), C: 2, D: 1}
			}
			if y, ok := Begin(x, c.at, 1); y != want || ok != c.want {
				t.Errorf("%d: Begin(%+v, %d, 1): %+v %v, not %+v", i, x, c.at, y, ok, want)
			}
		}
	}
	for _, s := range bad {
		x := rests(s, 110, 4)
		x.Next = 10
		if y, ok := Begin(x, 110, 1); y != x || ok {
			t.Errorf("Begin(%+v, 110, 1): %+v %v", x, y, ok)
		}
	}
	// The description alone tells, not what is left of a job that is not there.
	x := rests(one, 110, 4)
	x.J = api.Job{J: 9, Rel: 4, Due: 7, Mand: true, C: 6, D: 9, Ran: 5}
	if y, ok := Begin(x, 110, 1); y.J != (api.Job{On: true, J: 4, Rel: 110, Due: 120, Mand: true, C: 2, D: 1}) || !ok {
		t.Errorf("Begin(%+v, 110, 1): %+v %v", x, y, ok)
	}
}

// P15.4: each d up to beyond all, of each C, whether it was Kept or not.
func TestKept(t *testing.T) {
	for c := 1; c <= 6; c++ {
		s := of(c, 10, 20, 1, 2, 3)
		for d := -2; d <= 23; d++ {
			for _, kept := range []bool{true, false} {
				x := rests(s, 110, 4)
				x.Kept = kept
				y, ok := Begin(x, 110, d)
				if there := d >= 1 && d <= 20; ok != there || there && y.Kept != (kept && d <= c) || !there && y != x {
					t.Errorf("Begin(%+v, 110, %d): %+v %v", x, d, y, ok)
				}
				// Nothing else touches it.
				for _, z := range tried(y, 125) {
					if z.Kept != y.Kept {
						t.Errorf("%+v was %+v", z, y)
					}
				}
			}
		}
	}
}

// tried is what a task comes to by each call but Begin.
func tried(x api.Task, now int) []api.Task {
	ended, _ := End(x, now)
	run, _ := Run(x)
	turned, _ := Turn(x, x.S, x.S.Max)
	return []api.Task{ended, run, turned}
}

// P15.5: without a job; of one that goes on, that ends in time, and that is cut.
func TestRunAsWritten(t *testing.T) {
	s := of(4, 10, 20, 2, 5, 3)
	for _, c := range []struct{ d, ran, f int }{
		{4, 0, runs}, {4, 2, runs}, {4, 3, done}, {3, 1, runs}, {3, 2, done}, {1, 0, done}, {5, 2, runs}, {5, 3, cut}, {20, 0, runs}, {20, 3, cut},
		// jobs that may not be
		{3, 3, done}, {3, 9, done}, {9, 4, cut}, {9, 8, done}, {0, 0, done}, {-1, 0, done}, {4, -1, runs}, {4, math.MinInt, runs}, {math.MaxInt, 4, cut}, {4, math.MaxInt, done}, {math.MinInt, math.MaxInt, done},
	} {
		for _, mand := range []bool{true, false} {
			x := works(s, 99, 110, 7, c.d, c.ran)
			x.J.Mand = mand
			x.H = api.Ring{N: 7, B: 5}
			want := x
			switch c.f {
			case runs:
				want.J.Ran = c.ran + 1
			case done:
				want.J, want.H = api.Job{}, api.Ring{N: 8, B: 11}
			case cut:
				want.J, want.H = api.Job{}, api.Ring{N: 8, B: 10}
			}
			if y, f := Run(x); y != want || f != c.f {
				t.Errorf("Run(%+v): %+v %d, not %+v %d", x, y, f, want, c.f)
			}
			// Without On there is none, whatever else is told of it: it stays as it is.
			x.J.On = false
			if y, f := Run(x); y != x || f != missed {
				t.Errorf("Run(%+v): %+v %d", x, y, f)
			}
		}
	}
	x := rests(s, 110, 7)
	if y, f := Run(x); y != x || f != missed {
		t.Errorf("Run(%+v): %+v %d", x, y, f)
	}
	if y, f := Run(api.Task{}); y != (api.Task{}) || f != missed {
		t.Errorf("Run of a zero one: %+v %d", y, f)
	}
}

// P15.5: with a job and without one, ahead of a turn and behind it; a job would run as long as it may, whether it would run shorter or longer.
func TestLiveAsWritten(t *testing.T) {
	s := of(4, 10, 20, 2, 5, 3)
	x := api.Task{ID: 3, S: s, P: 12, Next: 15, At: 110, N: 7, H: api.Ring{N: 7, B: 13}, Kept: true}
	if l := Live(x); l != (api.Live{S: s, P: 15, At: 110, N: 7}) {
		t.Errorf("Live(%+v): %+v", x, l)
	}
	far := of(4, 12, 40, 2, 5, 8)
	y, _ := Turn(x, far, 33)
	if l := Live(y); l != (api.Live{S: far, P: 33, At: 110, N: 7}) {
		t.Errorf("Live(%+v): %+v", y, l)
	}
	for _, d := range []int{1, 3, 4, 5, 20} {
		for ran := range min(d, 4) {
			x := works(s, 98, 110, 7, d, ran)
			x.P, x.Next = 12, 15
			want := api.Live{S: s, P: 15, At: 110, N: 8, J: api.Job{On: true, J: 7, Rel: 98, Due: 110, Mand: true, C: 4, D: 4, Ran: ran}}
			if l := Live(x); l != want {
				t.Errorf("Live(%+v): %+v, not %+v", x, l, want)
			}
			y, _ := Turn(x, far, 33)
			want.S, want.P = far, 33
			if l := Live(y); l != want {
				t.Errorf("Live(%+v): %+v, not %+v", y, l, want)
			}
		}
	}
	if l := Live(api.Task{}); l != (api.Live{}) {
		t.Errorf("Live of a zero one: %+v", l)
	}
}

// P15.1 to P15.5: a row of calls, told in full.
func TestRowAsWritten(t *testing.T) {
	s := of(3, 10, 20, 2, 5, 3)
	x, _ := New(9, s, 10, 40)
	x, ok := Begin(x, 40, 3)
	x, f := Run(x)
	if want := (api.Task{ID: 9, S: s, P: 10, Next: 10, At: 50, N: 1, Kept: true, J: api.Job{On: true, Rel: 40, Due: 50, Mand: true, C: 3, D: 3, Ran: 1}}); x != want || !ok || f != runs {
		t.Fatalf("%+v %v %d", x, ok, f)
	}
	far := of(3, 16, 24, 2, 5, 8)
	x, ok = Turn(x, far, 20)
	if want := (api.Task{ID: 9, S: far, P: 10, Next: 20, At: 50, N: 1, Kept: true, J: api.Job{On: true, Rel: 40, Due: 50, Mand: true, C: 3, D: 3, Ran: 1}}); x != want || !ok {
		t.Fatalf("%+v %v", x, ok)
	}
	x, _ = Run(x)
	x, f = Run(x)
	if want := (api.Task{ID: 9, S: far, P: 10, Next: 20, At: 50, N: 1, Kept: true, H: api.Ring{N: 1, B: 1}}); x != want || f != done {
		t.Fatalf("%+v %d", x, f)
	}
	x, f = End(x, 50)
	x, ok = Begin(x, 50, 5)
	if want := (api.Task{ID: 9, S: far, P: 20, Next: 20, At: 70, N: 2, H: api.Ring{N: 1, B: 1}, J: api.Job{On: true, J: 1, Rel: 50, Due: 70, C: 3, D: 5}}); x != want || !ok || f != runs {
		t.Fatalf("%+v %v %d", x, ok, f)
	}
	x, f = End(x, 70)
	x, ok = Begin(x, 70, 1)
	if want := (api.Task{ID: 9, S: far, P: 20, Next: 20, At: 90, N: 3, H: api.Ring{N: 2, B: 2}, J: api.Job{On: true, J: 2, Rel: 70, Due: 90, Mand: true, C: 3, D: 1}}); x != want || !ok || f != missed {
		t.Fatalf("%+v %v %d", x, ok, f)
	}
}

// P15.1 to P15.5: tasks that may be, with one field near all edges, up to the greatest and down to the least, at times around it, held against the words.
func TestEachFieldNearAllEdges(t *testing.T) {
	count := map[bool]int{}
	l, times := bases()
	for n, base := range l {
		now := times[n]
		if !May(base, now) {
			t.Fatalf("May(%+v, %d): no", base, now)
		}
		for i := n % 2; i < size; i += 2 {
			for _, number := range near {
				x := base
				*ints(&x)[i] = number
				for _, at := range []int{now, x.At, x.J.Due} {
					holds(t, x, at)
				}
				mayAs(t, x, now-1)
				mayAs(t, x, now+1)
				mayAs(t, x, number)
				count[May(x, now)]++
				if n%7 == 0 {
					for _, b := range yesNo(&x) {
						*b = !*b
						holds(t, x, now)
						holds(t, x, x.At)
						*b = !*b
					}
				}
			}
		}
		for _, at := range near {
			holds(t, base, at)
		}
		for _, d := range near {
			beginAs(t, base, base.At, d)
			beginAs(t, base, d, base.S.C)
		}
		for i := range 3 {
			x := base
			*yesNo(&x)[i] = !*yesNo(&x)[i]
			holds(t, x, now)
			holds(t, x, x.At)
		}
	}
	if count[true] < 1000 || count[false] < 1000 {
		t.Errorf("%v", count)
	}
}

// P15.1 to P15.5: two fields near the edges, and far beyond them.
func TestTwoFieldsNearAllEdges(t *testing.T) {
	l, times := bases()
	for n := 0; n < len(l); n += 23 {
		for i := range size {
			for k := range i {
				for _, a := range few {
					for _, b := range few {
						x := l[n]
						*ints(&x)[i], *ints(&x)[k] = a, b
						holds(t, x, times[n])
						holds(t, x, x.At)
					}
				}
			}
		}
	}
}

// P15.1 to P15.5: drawn tasks, such as may be with some fields set anew.
func TestDrawnTasks(t *testing.T) {
	s := state(15)
	l, times := bases()
	count := map[bool]int{}
	for range 100000 {
		n := s.draw(0, len(l)-1)
		x, now := l[n], times[n]
		for range s.draw(0, 4) {
			field := ints(&x)[s.draw(0, size-1)]
			*field = []int{*field + s.draw(-2, 2), s.draw(-1, 60), near[s.draw(0, len(near)-1)]}[s.draw(0, 2)]
		}
		if s.draw(0, 3) == 0 {
			x.H.B = uint64(s.draw(0, math.MaxInt32)) << s.draw(0, 33)
		}
		count[May(x, now)]++
		for _, at := range []int{now, x.At, x.J.Due, now + s.draw(-3, 3)} {
			holds(t, x, at)
			beginAs(t, x, at, s.draw(-1, 22))
		}
	}
	if count[true] < 1000 || count[false] < 1000 {
		t.Errorf("%v", count)
	}
}

// R1: zero ones, and such as are all the greatest, or all the least, are told of without a panic.
func TestZeroAndFarthest(t *testing.T) {
	for _, n := range []int{0, math.MaxInt, math.MinInt, -1, last, clock} {
		for flags := range 8 {
			var x api.Task
			for i := range size {
				*ints(&x)[i] = n
			}
			for i, b := range yesNo(&x) {
				*b = flags>>i&1 == 1
			}
			for _, b := range []uint64{0, 1, math.MaxUint64} {
				x.H.B = b
				for _, now := range near {
					holds(t, x, now)
				}
			}
		}
	}
	if May(api.Task{}, 0) {
		t.Errorf("a zero one may be")
	}
}

// R5: what is asked again is told again, whatever was asked in between.
func TestAskedAgain(t *testing.T) {
	l, times := bases()
	for n, x := range l {
		now := times[n]
		ended, f := End(x, now)
		begun, ok := Begin(x, now, 2)
		run, g := Run(x)
		seen := Live(x)
		other := l[(n*7+3)%len(l)]
		End(other, now)
		Begin(other, other.At, 1)
		Run(other)
		Live(other)
		Turn(other, other.S, other.S.T)
		New(4, other.S, other.S.T, now)
		endedToo, h := End(x, now)
		begunToo, same := Begin(x, now, 2)
		runToo, i := Run(x)
		if ended != endedToo || f != h || begun != begunToo || ok != same || run != runToo || g != i || seen != Live(x) || !May(x, now) {
			t.Fatalf("%+v at %d", x, now)
		}
	}
}

// P15.6: a task that may be stays so by each call, at the time that it is, and at the next one as soon as it has begun what is to begin.
func TestWhatMayBeStaysSo(t *testing.T) {
	s := state(6)
	l, times := bases()
	for range 100000 {
		n := s.draw(0, len(l)-1)
		x, now := l[n], times[n]
		if now == last || x.N >= last {
			continue
		}
		if !May(x, now) {
			t.Fatalf("May(%+v, %d): no", x, now)
		}
		low := s.draw(x.S.C, longest)
		high := s.draw(low, longest)
		turned, _ := Turn(x, of(x.S.C, low, high, x.S.M, x.S.K, s.draw(0, 8)), s.draw(low, high))
		run, _ := Run(turned)
		ended, _ := End(run, now)
		for _, y := range []api.Task{turned, run, ended} {
			if !May(y, now) {
				t.Fatalf("May(%+v, %d): no, it was %+v", y, now, x)
			}
		}
		if begun, ok := Begin(ended, now, s.draw(1, 20)); ok != (ended.At == now) || !May(begun, now+1) {
			t.Fatalf("May(%+v, %d): no, it was %+v", begun, now+1, x)
		}
	}
}

// told is what a task must have come to: how many jobs began, and what became of those that are over.
type told struct {
	task     api.Task
	begun    int
	outcomes []bool
	kept     bool
	fates    [4]int
}

// as fails if a task is not what it must have come to, or may not be at a time.
func (w *told) as(t *testing.T, now int, what string) {
	t.Helper()
	over := w.begun
	if w.task.J.On {
		over--
	}
	if len(w.outcomes) != over || w.task.N != w.begun || w.task.H != ringOf(w.outcomes) || w.task.Kept != w.kept {
		t.Fatalf("%s at %d: %+v, not %d begun, %d over, %+v", what, now, w.task, w.begun, over, ringOf(w.outcomes))
	}
	if !May(w.task, now) {
		t.Fatalf("%s: May(%+v, %d): no", what, w.task, now)
	}
}

// tick leads a task through one time: it ends, turns, begins and runs, as may be; how many times it runs, and whether it turns, is drawn.
func (w *told) tick(t *testing.T, s *state, now, often, turns int) {
	t.Helper()
	w.as(t, now, "first")
	x, f := End(w.task, now)
	w.task = x
	w.over(f)
	w.as(t, now, "End")
	if s.draw(0, turns) == 0 {
		c := w.task.S
		low := s.draw(c.C, longest)
		high := s.draw(low, longest)
		w.task, _ = Turn(w.task, of(c.C, low, high, c.M, c.K, s.draw(0, 8)), s.draw(low, high))
		w.as(t, now, "Turn")
	}
	d := s.draw(1, 20)
	if s.draw(0, 3) > 0 {
		d = s.draw(1, w.task.S.C)
	}
	x, ok := Begin(w.task, now, d)
	if ok != (w.task.At == now) {
		t.Fatalf("Begin(%+v, %d, %d): %v", w.task, now, d, ok)
	}
	w.task = x
	if ok {
		w.begun++
		w.kept = w.kept && d <= x.S.C
	}
	w.as(t, now+1, "Begin")
	for range s.draw(0, often) {
		if w.task, f = Run(w.task); f != missed {
			w.over(f)
		}
		w.as(t, now+1, "Run")
	}
}

// over notes what became of a job.
func (w *told) over(f int) {
	w.fates[f]++
	if f != runs {
		w.outcomes = append(w.outcomes, f == done)
	}
}

// P15.6: tasks that are led through long rows of calls stay such as may be, with an outcome of each job that is over, as long as these are kept.
func TestLongRows(t *testing.T) {
	s := state(7)
	var fates [4]int
	for row := range 250 {
		spec := good[row%len(good)]
		now := []int{0, 5, 1000, last - 2000}[row%4]
		x, ok := New(row, spec, spec.T, now)
		if !ok {
			t.Fatalf("New(%d, %+v, %d, %d): no", row, spec, spec.T, now)
		}
		w := told{task: x, kept: true}
		often, turns := s.draw(0, 3), s.draw(0, 200)
		for range 2000 {
			w.tick(t, &s, now, often, turns)
			now++
		}
		for f, n := range w.fates {
			fates[f] += n
		}
		if w.begun < 30 {
			t.Errorf("%+v: %d begun", spec, w.begun)
		}
	}
	if slices.Min(fates[:]) < 1000 {
		t.Errorf("%v", fates)
	}
}

// P15.6: each job's fate stands in the row at its place: those that ran as long as they would are good, and no others.
func TestEachFateIsToldOnce(t *testing.T) {
	spec := of(2, 3, 3, 1, 2, 0)
	x, _ := New(1, spec, 3, 0)
	now := 0
	for n := range 130 {
		x, _ = End(x, now)
		if over := min(n, 60); x.H.N != over || x.N != n || !May(x, now) {
			t.Fatalf("%d: %+v", n, x)
		}
		for behind := range x.H.N {
			if (x.H.B>>behind&1 == 1) != ((n-1-behind)%3 == 0) {
				t.Fatalf("%d: %+v, %d behind", n, x, behind)
			}
		}
		// One of three ends in time, one is cut, one does not end.
		x, _ = Begin(x, now, []int{2, 3, 3}[n%3])
		for range []int{2, 2, 1}[n%3] {
			x, _ = Run(x)
		}
		now += 3
	}
}
