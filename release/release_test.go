package release

import (
	"math"
	"math/bits"
	"slices"
	"testing"

	"fusee/api"
	"fusee/task"
)

// The limits are told by their numbers, so that a test fails if one of them is taken for another.
const (
	end        = 274877906944
	last       = 549755813888
	clock      = 1099511627776
	longest    = 48
	remembered = 60
	tasks      = 4
	most       = 4
	long40     = 40
	worth      = 1000
	look       = 2000
	unit       = 1048576
	load       = 983040
)

// words holds which jobs of a window are mandatory: by k, and then by m.
var words = [][]string{
	{"1"},
	{"10", "11"},
	{"100", "110", "111"},
	{"1000", "1010", "1110", "1111"},
	{"10000", "10100", "11010", "11110", "11111"},
	{"100000", "100100", "101010", "110110", "111110", "111111"},
}

// near are numbers at the edges of all fields, and far beyond them.
var near = []int{
	math.MinInt, math.MinInt + 1, math.MinInt + 48, -1 << 62, -clock - 1, -last - 1, -end - 1, -1 << 32, -49, -20, -2, -1, 0, 1, 2, 3, 4, 5, 6, 7, 8, 9, 10, 11, 12, 15, 19, 20, 21, 39, 40, 41,
	47, 48, 49, 59, 60, 61, 98, 99, 100, 101, 102, 147, 148, 149, 999, 1000, 1001, 65535, 65536, 1 << 31, 1 << 32, 1<<32 + 100, end - 1, end, end + 1, end + 48, end + 49, last - 1, last, last + 1, last + 48, clock - 1, clock, clock + 1, 1 << 62, math.MaxInt - 48, math.MaxInt - 1, math.MaxInt,
}

// few are some of them, for two fields at a time.
var few = []int{math.MinInt, -2, -1, 0, 1, 2, 10, 20, 21, 48, 49, 99, 100, 101, 148, 149, end, end + 1, last, last + 1, clock, math.MaxInt}

// of is a description of six numbers.
func of(c, t, high, m, k, e int) api.Spec {
	return api.Spec{C: c, T: t, Max: high, M: m, K: k, E: e}
}

// firm is one of one period that is not elastic, whose jobs are all mandatory.
func firm(c, p int) api.Spec { return of(c, p, p, 1, 1, 0) }

// one is the shared tests' first one.
var one = of(2, 10, 20, 1, 2, 3)

// rests is a task whose last job is over, of a number of jobs that are; all of them good.
func rests(id int, s api.Spec, next, at, n int) api.Task {
	return api.Task{ID: id, S: s, P: next, Next: next, At: at, N: n, H: allGood(n), Kept: true}
}

// works is a task whose job, the one with the number n, goes on.
func works(id int, s api.Spec, next, rel, due, n, d, ran int) api.Task {
	x := rests(id, s, next, due, n)
	x.N = n + 1
	x.J = api.Job{On: true, J: n, Rel: rel, Due: due, Mand: refMand(s, n), C: s.C, D: d, Ran: ran}
	return x
}

// allGood are the last of so many good outcomes.
func allGood(n int) api.Ring {
	n = min(n, remembered)
	return api.Ring{N: n, B: 1<<n - 1}
}

// ape is a job that came once, of five numbers.
func ape(id, due, c, v, ran int) api.Ape {
	return api.Ape{ID: id, Due: due, C: c, V: v, Ran: ran}
}

// at is a world at a time, in which none of the jobs that came once ran last.
func at(now int, l ...api.Task) api.World {
	return api.World{Now: now, T: l, Cur: -1}
}

// with is a world with jobs that came once.
func with(w api.World, l ...api.Ape) api.World {
	w.A = l
	return w
}

// three begin at 100 the first and the third one of them; the second one has a job till 104.
func three() api.World {
	return with(at(100, rests(3, one, 15, 100, 4), works(5, of(4, 8, 48, 2, 3, 1), 12, 92, 104, 7, 4, 2), rests(9, firm(1, 6), 6, 100, 61)), ape(2, 90, 9, 7, 3), ape(6, 150, 40, 1000, 39))
}

// copied is a world that shares nothing with another one.
func copied(w api.World) api.World {
	w.T = append([]api.Task(nil), w.T...)
	w.A = append([]api.Ape(nil), w.A...)
	return w
}

// ofTask are a task's numbers, each to be set by itself.
func ofTask(x *api.Task) []*int {
	return []*int{
		&x.ID, &x.S.C, &x.S.T, &x.S.Max, &x.S.M, &x.S.K, &x.S.E, &x.P, &x.Next, &x.At, &x.N,
		&x.J.J, &x.J.Rel, &x.J.Due, &x.J.C, &x.J.D, &x.J.Ran, &x.H.N,
	}
}

// numbers are a world's, each to be set by itself; it must be the caller's own.
func numbers(w *api.World) []*int {
	l := []*int{&w.Now, &w.Cur}
	for i := range w.T {
		l = append(l, ofTask(&w.T[i])...)
	}
	for i := range w.A {
		a := &w.A[i]
		l = append(l, &a.ID, &a.Due, &a.C, &a.V, &a.Ran)
	}
	return l
}

// yesNo are a world's fields of yes and no.
func yesNo(w *api.World) []*bool {
	var l []*bool
	for i := range w.T {
		x := &w.T[i]
		l = append(l, &x.J.On, &x.J.Mand, &x.Kept)
	}
	return l
}

// flat is all that a world is, number by number.
func flat(w api.World) []int {
	l := make([]int, 0, 4+23*len(w.T)+5*len(w.A))
	l = append(l, w.Now, w.Cur, len(w.T), len(w.A))
	for _, x := range w.T {
		s, j := x.S, x.J
		l = append(l, x.ID, s.C, s.T, s.Max, s.M, s.K, s.E, x.P, x.Next, x.At, x.N, x.H.N, int(x.H.B), bit(x.Kept))
		l = append(l, bit(j.On), j.J, j.Rel, j.Due, bit(j.Mand), j.C, j.D, j.Ran)
	}
	for _, a := range w.A {
		l = append(l, a.ID, a.Due, a.C, a.V, a.Ran)
	}
	return l
}

// bit is yes and no as a number.
func bit(b bool) int {
	if b {
		return 1
	}
	return 0
}

// state is where drawing stands; each test that draws begins anew.
type state uint64

func (s *state) draw(low, high int) int {
	*s = *s*6364136223846793005 + 1442695040888963407
	return low + int(*s>>33)%(high-low+1)
}

// drawSpec is a description that may be, whose period is short as often as it is long.
func (s *state) drawSpec() api.Spec {
	c, k := s.draw(1, 6), s.draw(1, 6)
	t := s.draw(c, []int{8, 16, 48, 48}[s.draw(0, 3)])
	d := of(c, t, s.draw(t, longest), s.draw(1, k), k, s.draw(0, 8))
	if d.E == 0 {
		d.Max = d.T
	}
	return d
}

// drawTask is a task that may be one of a world at a time, more often with a job than without.
func (s *state) drawTask(id, now int) api.Task {
	d := s.drawSpec()
	x := rests(id, d, s.draw(d.T, d.Max), now+[]int{0, s.draw(0, 5), s.draw(0, longest)}[s.draw(0, 2)], 0)
	if s.draw(0, 1) == 0 {
		x.P = s.draw(1, longest)
	}
	x.N = []int{s.draw(0, 12), s.draw(56, 64), last - s.draw(0, 12)}[s.draw(0, 2)]
	over := x.N
	if x.N > 0 && now > 0 && x.At > now && s.draw(0, 3) > 0 {
		over--
		x.J = api.Job{On: true, J: over, Rel: max(0, now-s.draw(1, 60)), Due: x.At, Mand: refMand(d, over), C: d.C, D: s.draw(1, 20)}
		x.J.Ran = s.draw(0, min(x.J.C, x.J.D)-1)
	}
	x.H = api.Ring{N: min(over, remembered)}
	x.H.B = uint64(s.draw(0, math.MaxInt32)) * uint64(s.draw(0, math.MaxInt32)) & (1<<x.H.N - 1)
	x.Kept = s.draw(0, 1) == 0
	return x
}

// drawWorld is a world that may be.
func (s *state) drawWorld() api.World {
	w := at([]int{0, 1, s.draw(2, 400), end - s.draw(0, 50), end}[s.draw(0, 4)])
	id := s.draw(0, 2)
	for range s.draw(0, tasks) {
		w.T = append(w.T, s.drawTask(id, w.Now))
		id += s.draw(1, []int{3, 70000, 1 << 36}[s.draw(0, 2)])
	}
	id = s.draw(0, 2)
	for range max(0, s.draw(-2, most)) {
		c := s.draw(1, long40)
		w.A = append(w.A, ape(id, []int{s.draw(1, 500), clock - s.draw(0, 50)}[s.draw(0, 1)], c, s.draw(1, worth), s.draw(0, c-1)))
		id += s.draw(1, []int{3, 70000, 1 << 36}[s.draw(0, 2)])
	}
	w.Cur = []int{-1, s.draw(0, 5), last}[s.draw(0, 2)]
	return w
}

// drawLong is how long jobs would run: as many numbers as may begin, fewer, or more, most of which may be.
func (s *state) drawLong() []int {
	var d []int
	for range s.draw(0, 6) {
		d = append(d, []int{s.draw(1, 20), s.draw(-1, 22), near[s.draw(0, len(near)-1)]}[s.draw(0, 2)])
	}
	return d
}

// spoil changes something of a world, most often so that it may not be.
func (s *state) spoil(w api.World) api.World {
	w = copied(w)
	fields := numbers(&w)
	n := fields[s.draw(0, len(fields)-1)]
	switch s.draw(0, 9) {
	case 0:
		if len(w.T) > 1 {
			w.T[0], w.T[len(w.T)-1] = w.T[len(w.T)-1], w.T[0]
		}
	case 1:
		if len(w.A) > 1 {
			w.A[0], w.A[len(w.A)-1] = w.A[len(w.A)-1], w.A[0]
		}
	case 2:
		w.T = append(w.T, w.T...)
	case 3:
		w.A = append(w.A, w.A...)
	case 4:
		if b := yesNo(&w); len(b) > 0 {
			i := s.draw(0, len(b)-1)
			*b[i] = !*b[i]
		}
	case 5:
		if len(w.T) > 0 {
			w.T[s.draw(0, len(w.T)-1)].H.B = uint64(s.draw(0, math.MaxInt32)) << s.draw(0, 33)
		}
	case 6, 7:
		*n += s.draw(-2, 2)
	case 8:
		*n = s.draw(-1, 60)
	default:
		*n = near[s.draw(0, len(near)-1)]
	}
	return w
}

// The references below say by the document's words what is so, without the layers below.

func refSpec(s api.Spec) bool {
	return s.C >= 1 && s.C <= 6 && s.C <= s.T && s.T <= s.Max && s.Max <= longest &&
		s.M >= 1 && s.M <= s.K && s.K <= 6 && s.E >= 0 && s.E <= 8 && (s.E != 0 || s.T == s.Max)
}

// refMand tells whether a job is mandatory, of a description that may be, and a number that may be.
func refMand(s api.Spec, n int) bool { return words[s.K-1][s.M-1][n%s.K] == '1' }

// refJob tells whether a job may be of a description that may be.
func refJob(s api.Spec, j api.Job) bool {
	if !j.On {
		return j.J == 0 && j.Rel == 0 && j.Due == 0 && !j.Mand && j.C == 0 && j.D == 0 && j.Ran == 0
	}
	return j.J >= 0 && j.J <= clock && j.Rel >= 0 && j.Rel < j.Due && j.Due <= clock && j.Mand == refMand(s, j.J) &&
		j.C == s.C && j.D >= 1 && j.D <= 20 && j.Ran >= 0 && j.Ran < j.C && j.Ran < j.D
}

func refRing(h api.Ring) bool {
	return h.N >= 0 && h.N <= remembered && bits.Len64(h.B) <= h.N
}

// refTask tells whether a task may be at a time.
func refTask(x api.Task, now int) bool {
	switch {
	case x.ID < 0, x.ID > last, !refSpec(x.S), x.Next < x.S.T, x.Next > x.S.Max, x.P < 1, x.P > longest, !refRing(x.H):
		return false
	case now < 0, now > last, x.At < now, x.At > now+longest, x.N < 0, x.N > last, !refJob(x.S, x.J):
		return false
	}
	over := x.N
	if x.J.On {
		over = x.J.J
		if x.J.Rel >= now || x.J.Due != x.At || x.N != over+1 {
			return false
		}
	}
	return x.H.N == over || over > remembered && x.H.N == remembered
}

func refMay(w api.World) bool {
	if w.Now < 0 || w.Now > end || w.Cur < -1 || w.Cur > last || len(w.T) > tasks || len(w.A) > most {
		return false
	}
	for i, x := range w.T {
		if !refTask(x, w.Now) || x.J.On && w.Now >= x.J.Due || slices.ContainsFunc(w.T[:i], func(y api.Task) bool { return y.ID >= x.ID }) {
			return false
		}
	}
	for i, a := range w.A {
		if a.ID < 0 || a.ID > last || a.Due < 1 || a.Due > clock || a.C < 1 || a.C > long40 || a.V < 1 || a.V > worth || a.Ran < 0 || a.Ran >= a.C {
			return false
		}
		if slices.ContainsFunc(w.A[:i], func(b api.Ape) bool { return b.ID >= a.ID }) {
			return false
		}
	}
	return true
}

func refLives(w api.World) []api.Live {
	var l []api.Live
	for _, x := range w.T {
		j := x.J
		j.D = j.C
		l = append(l, api.Live{S: x.S, J: j, P: x.Next, At: x.At, N: x.N})
	}
	return l
}

// refUp is the least number that times b is no less than a.
func refUp(a, b int) int { return (a + b - 1) / b }

// refTest tells whether tasks that may be, at these periods, fit, and no stretch is too short for what must be done in it.
func refTest(l []api.Task, periods []int) bool {
	sum, units := 0, 0
	for i, x := range l {
		if periods[i] < x.S.T || periods[i] > x.S.Max {
			return false
		}
		sum += x.S.C
		units += refUp(x.S.C*x.S.M*unit, x.S.K*periods[i])
	}
	for n := 1; n < refUp(sum*unit, unit-load); n++ {
		all := 0
		for i, x := range l {
			all += x.S.C * refUp(n/periods[i]*x.S.M, x.S.K)
		}
		if all > n {
			return false
		}
	}
	return units <= load
}

// refFirst is the place of the one whose mandatory job no other one is ahead of.
func refFirst(l []api.Live) int {
	first := -1
	for i, x := range l {
		if x.J.On && x.J.Mand && (first < 0 || x.J.Due < l[first].J.Due) {
			first = i
		}
	}
	return first
}

// refLook tells whether tasks that may be come to where nobody must, from a time on, with none missed, if each job runs as long as it may.
func refLook(l []api.Live, now int) bool {
	l = slices.Clone(l)
	for range look {
		if refFirst(l) < 0 {
			return true
		}
		for i, x := range l {
			if x.At <= now {
				l[i].J = api.Job{On: true, J: x.N, Rel: now, Due: now + x.P, Mand: refMand(x.S, x.N), C: x.S.C, D: x.S.C}
				l[i].At, l[i].N = now+x.P, x.N+1
			}
		}
		j := &l[refFirst(l)].J
		j.Ran++
		if j.Ran == j.C {
			*j = api.Job{}
		}
		now++
		for i, x := range l {
			if x.J.On && x.J.Due <= now {
				if x.J.Mand {
					return false
				}
				l[i].J = api.Job{}
			}
		}
	}
	return false
}

// nexts are the periods that tasks have from their next jobs on, ps those that they have.
func nexts(l []api.Task) []int {
	var p []int
	for _, x := range l {
		p = append(p, x.Next)
	}
	return p
}

func ps(l []api.Task) []int {
	var p []int
	for _, x := range l {
		p = append(p, x.P)
	}
	return p
}

func refSafe(w api.World) bool {
	return refMay(w) && refTest(w.T, nexts(w.T)) && refLook(refLives(w), w.Now)
}

func refBegin(w api.World, d []int) (api.World, []int) {
	if !refMay(w) {
		return w, nil
	}
	w = copied(w)
	var ids []int
	for i, x := range w.T {
		if x.J.On || x.At != w.Now {
			continue
		}
		would := x.S.C
		if len(d) > len(ids) && d[len(ids)] >= 1 && d[len(ids)] <= 20 {
			would = d[len(ids)]
		}
		ids = append(ids, x.ID)
		w.T[i] = api.Task{
			ID: x.ID, S: x.S, P: x.Next, Next: x.Next, At: w.Now + x.Next, N: x.N + 1, H: x.H, Kept: x.Kept && would <= x.S.C,
			J: api.Job{On: true, J: x.N, Rel: w.Now, Due: w.Now + x.Next, Mand: refMand(x.S, x.N), C: x.S.C, D: would},
		}
	}
	return w, ids
}

// refPut puts a bad outcome behind the others: of a ring that may not be none are left.
func refPut(h api.Ring) api.Ring {
	switch {
	case !refRing(h):
		return api.Ring{N: 1}
	case h.N == remembered:
		return api.Ring{N: remembered, B: h.B &^ (1 << 59) * 2}
	default:
		return api.Ring{N: h.N + 1, B: h.B * 2}
	}
}

func refEnd(w api.World) (api.World, []int) {
	w = copied(w)
	var ids []int
	for i, x := range w.T {
		if !x.J.On || x.J.Due > w.Now {
			continue
		}
		if x.J.Mand {
			ids = append(ids, x.ID)
		}
		w.T[i] = api.Task{ID: x.ID, S: x.S, P: x.P, Next: x.Next, At: x.At, N: x.N, H: refPut(x.H), Kept: x.Kept}
	}
	return w, ids
}

// same tells whether two worlds are the same, number by number.
func same(a, b api.World) bool { return slices.Equal(flat(a), flat(b)) }

// mayAs fails if a world may be, or not, otherwise than is told.
func mayAs(t *testing.T, w api.World, want bool) {
	t.Helper()
	if May(w) != want {
		t.Errorf("May(%+v): %v", w, !want)
	}
}

// safeAs fails if a world is safe, or not, otherwise than is told.
func safeAs(t *testing.T, w api.World, want bool) {
	t.Helper()
	if Safe(w) != want {
		t.Errorf("Safe(%+v): %v", w, !want)
	}
}

// beginAs fails if a world begins to anything else.
func beginAs(t *testing.T, w api.World, d []int, want api.World, ids ...int) {
	t.Helper()
	x, l := Begin(w, d)
	if !same(x, want) || !slices.Equal(l, ids) {
		t.Errorf("Begin(%+v, %v): %+v %v, not %+v %v", w, d, x, l, want, ids)
	}
}

// endAs fails if a world ends to anything else.
func endAs(t *testing.T, w, want api.World, ids ...int) {
	t.Helper()
	x, l := End(w)
	if !same(x, want) || !slices.Equal(l, ids) {
		t.Errorf("End(%+v): %+v %v, not %+v %v", w, x, l, want, ids)
	}
}

// livesAs fails if a world's tasks are looked on otherwise than by the words. Of a job that is not there, but that something is told of, task tells how long it would run.
func livesAs(t *testing.T, w api.World) {
	t.Helper()
	got, want := Lives(w), refLives(w)
	for i, x := range w.T {
		if !refSpec(x.S) || !refJob(x.S, x.J) {
			want[i] = task.Live(x)
		}
	}
	if !slices.Equal(got, want) {
		t.Errorf("Lives(%+v): %+v, not %+v", w, got, want)
	}
}

// holds fails if any call but Safe tells of a world otherwise than by the words, or if the world does not stay as it was; it tells whether the world may be.
func holds(t *testing.T, w api.World, d []int) bool {
	t.Helper()
	was, long := copied(w), slices.Clone(d)
	may := refMay(w)
	mayAs(t, w, may)
	livesAs(t, w)
	x, ids := refBegin(w, d)
	beginAs(t, w, d, x, ids...)
	y, ids := refEnd(w)
	endAs(t, w, y, ids...)
	if !same(w, was) || !slices.Equal(d, long) {
		t.Errorf("%+v, %v was changed: %+v, %v", was, long, w, d)
	}
	if !Same(w, was) || Same(w, x) != same(w, x) || Same(y, w) != same(y, w) || Same(x, y) != same(x, y) {
		t.Errorf("Same of %+v, %+v and %+v", w, x, y)
	}
	if !may {
		safeAs(t, w, false)
	}
	return may
}

// P17.1 to P17.3: the chapter's example, told in full: a new task at 0 begins at 0.
func TestExample(t *testing.T) {
	x, _ := task.New(1, one, 10, 0)
	w := at(0, x)
	mayAs(t, w, true)
	safeAs(t, w, true)
	if l := Lives(w); !slices.Equal(l, []api.Live{{S: one, P: 10}}) {
		t.Errorf("Lives(%+v): %+v", w, l)
	}
	begun := api.Task{ID: 1, S: one, P: 10, Next: 10, At: 10, N: 1, J: api.Job{On: true, Due: 10, Mand: true, C: 2, D: 2}, Kept: true}
	beginAs(t, w, nil, at(0, begun), 1)
	if l := Lives(at(1, begun)); !slices.Equal(l, []api.Live{{S: one, P: 10, At: 10, N: 1, J: begun.J}}) {
		t.Errorf("Lives(%+v): %+v", begun, l)
	}
	mayAs(t, at(0, begun), false)
	for now := 1; now <= 9; now++ {
		mayAs(t, at(now, begun), true)
		safeAs(t, at(now, begun), now <= 8)
		endAs(t, at(now, begun), at(now, begun))
	}
	mayAs(t, at(10, begun), false)
	over := begun
	over.J, over.H = api.Job{}, api.Ring{N: 1}
	endAs(t, at(10, begun), at(10, over), 1)
	mayAs(t, at(10, over), true)
}

// P17.1: the edges of Now and of Cur, told one by one, with tasks and without.
func TestMayAtTheEdges(t *testing.T) {
	for now, want := range map[int]bool{
		0: true, 1: true, -1: false, end: true, end - 1: true, end + 1: false, end + 48: false, last: false, last + 1: false, clock: false, math.MaxInt: false, math.MinInt: false,
	} {
		mayAs(t, at(now), want)
		mayAs(t, at(now, rests(3, one, 10, now, 0)), want)
		mayAs(t, with(at(now), ape(2, 5, 1, 1, 0)), want)
		if want && now > 0 {
			mayAs(t, at(now, works(3, one, 10, now-1, now+1, 2, 2, 0)), true)
		}
	}
	for cur, want := range map[int]bool{
		-1: true, 0: true, 1: true, 2: true, 6: true, -2: false, last: true, last - 1: true, last + 1: false, clock: false, math.MaxInt: false, math.MinInt: false,
	} {
		for _, w := range []api.World{at(100), three()} {
			w.Cur = cur
			mayAs(t, w, want)
		}
	}
	// A zero one may be: the job 0 ran last, and is none any more.
	mayAs(t, api.World{}, true)
	mayAs(t, three(), true)
}

// P17.1: how many tasks there are, and their IDs.
func TestMayOfHowManyTasks(t *testing.T) {
	of := func(ids ...int) api.World {
		w := at(100)
		for _, id := range ids {
			w.T = append(w.T, rests(id, one, 10, 110, 4))
		}
		return w
	}
	for i, c := range []struct {
		w    api.World
		want bool
	}{
		{of(), true}, {of(0), true}, {of(7), true}, {of(last), true}, {of(-1), false}, {of(last + 1), false}, {of(math.MinInt), false}, {of(math.MaxInt), false},
		{of(1, 2), true}, {of(1, 3), true}, {of(0, last), true}, {of(2, 1), false}, {of(1, 1), false}, {of(0, 0), false}, {of(last, last), false}, {of(last, 0), false}, {of(-1, 0), false}, {of(last, last+1), false},
		{of(1, 2, 3), true}, {of(1, 3, 2), false}, {of(2, 1, 3), false}, {of(1, 2, 2), false}, {of(1, 1, 2), false}, {of(3, 2, 1), false}, {of(1, 2, 1), false}, {of(2, 3, 1), false},
		{of(1, 2, 3, 4), true}, {of(0, 5, 65536, last), true}, {of(1, 2, 4, 3), false}, {of(1, 3, 2, 4), false}, {of(2, 1, 3, 4), false}, {of(1, 2, 3, 3), false}, {of(1, 1, 3, 4), false}, {of(4, 3, 2, 1), false}, {of(1, 2, 3, 1), false},
		{of(1, 2, 3, 4, 5), false}, {of(1, 2, 3, 4, 4), false}, {of(5, 4, 3, 2, 1), false}, {of(0, 1, 2, 3, 4, 5, 6, 7), false},
	} {
		if May(c.w) != c.want {
			t.Errorf("%d: May(%+v): %v", i, c.w, !c.want)
		}
		safeAs(t, c.w, c.want)
		holds(t, c.w, nil)
	}
}

// P17.1: how many jobs that came once there are, their IDs, and what may be of each.
func TestMayOfJobsThatCameOnce(t *testing.T) {
	of := func(ids ...int) api.World {
		w := three()
		w.A = nil
		for _, id := range ids {
			w.A = append(w.A, ape(id, 110, 5, 7, 2))
		}
		return w
	}
	for i, c := range []struct {
		w    api.World
		want bool
	}{
		{of(), true}, {of(0), true}, {of(7), true}, {of(last), true}, {of(-1), false}, {of(last + 1), false}, {of(math.MinInt), false},
		{of(1, 2), true}, {of(0, last), true}, {of(2, 1), false}, {of(1, 1), false}, {of(last, last), false}, {of(last, 0), false}, {of(-1, 0), false},
		{of(1, 2, 3), true}, {of(1, 3, 2), false}, {of(2, 1, 3), false}, {of(1, 2, 2), false}, {of(1, 1, 2), false}, {of(3, 2, 1), false}, {of(2, 3, 1), false}, {of(1, 2, 1), false},
		{of(1, 2, 3, 4), true}, {of(0, 5, 65536, last), true}, {of(1, 2, 4, 3), false}, {of(1, 3, 2, 4), false}, {of(2, 1, 3, 4), false}, {of(1, 2, 3, 3), false}, {of(4, 3, 2, 1), false},
		{of(1, 2, 3, 4, 5), false}, {of(5, 4, 3, 2, 1), false}, {of(0, 1, 2, 3, 4, 5, 6, 7), false},
		// such as can end no more, and such as must have ended: they are there till they are gone
		{with(at(100), ape(1, 1, 40, 1, 0)), true}, {with(at(100), ape(1, 100, 1, 1, 0)), true}, {with(at(end), ape(1, 1, 1, 1, 0)), true}, {with(at(0), ape(1, clock, 40, 1000, 39)), true},
		{with(at(100), ape(1, 0, 5, 7, 2)), false}, {with(at(100), ape(1, clock+1, 5, 7, 2)), false}, {with(at(100), ape(1, 110, 0, 7, 0)), false}, {with(at(100), ape(1, 110, 41, 7, 2)), false}, {with(at(100), ape(1, 110, 5, 0, 2)), false}, {with(at(100), ape(1, 110, 5, 1001, 2)), false},
		{with(at(100), ape(1, 110, 5, 7, -1)), false}, {with(at(100), ape(1, 110, 5, 7, 5)), false}, {with(at(100), ape(1, 110, 5, 7, 4)), true}, {with(at(100), ape(1, 110, 5, 7, 2), api.Ape{}), false}, {with(at(100), api.Ape{}), false},
		{with(at(100), ape(1, 110, 5, 7, 2), ape(2, 0, 5, 7, 2)), false}, {with(at(100), ape(1, 110, 5, 7, 2), ape(2, 110, 5, 7, 2), ape(3, 110, 5, 7, 5)), false},
	} {
		if May(c.w) != c.want {
			t.Errorf("%d: May(%+v): %v", i, c.w, !c.want)
		}
		safeAs(t, c.w, c.want)
		holds(t, c.w, []int{3})
	}
}

// P17.1: a task that may not be at Now, by each of its parts; the first one of three, the one between, and the last one.
func TestMayByEachPartOfATask(t *testing.T) {
	for place := range 3 {
		base := at(100, works(1, one, 10, 95, 120, 8, 2, 1), works(2, one, 10, 95, 120, 8, 2, 1), works(3, one, 10, 95, 120, 8, 2, 1))
		mayAs(t, base, true)
		for i, l := range [][]int{
			0:  {-1, last + 1},
			1:  {0, 1, 3, 7, -2},
			2:  {1, 11, 21, 0, -10},
			3:  {9, 49, math.MaxInt},
			4:  {0, 3, -1},
			5:  {0, 3, 7},
			6:  {-1, 9, 0},
			7:  {0, 49, -1, math.MaxInt},
			8:  {9, 21, 0, -10},
			9:  {119, 121, 100, 99, 148, 149, -120},
			10: {8, 10, 0, -9, last},
			11: {7, 9, -1, 0},
			12: {100, 101, 119, -1},
			13: {119, 121, 100, 95},
			14: {1, 3, 0},
			15: {0, 1, 21, -2},
			16: {2, 3, -1},
			17: {7, 9, 0, -1, 60},
		} {
			for _, n := range l {
				w := copied(base)
				*ofTask(&w.T[place])[i] = n
				mayAs(t, w, false)
				safeAs(t, w, false)
				holds(t, w, nil)
			}
		}
		for i, want := range []bool{false, false, true} {
			w := copied(base)
			b := yesNo(&w)[3*place+i]
			*b = !*b
			mayAs(t, w, want)
		}
		for _, b := range []uint64{1 << 8, 1 << 63, math.MaxUint64} {
			w := copied(base)
			w.T[place].H.B = b
			mayAs(t, w, false)
		}
		// What may be otherwise, too.
		for _, c := range [][2]int{{2, 9}, {3, 48}, {5, 1}, {6, 8}, {7, 1}, {7, 48}, {8, 20}, {12, 99}, {12, 0}, {15, 20}, {16, 0}} {
			w := copied(base)
			*ofTask(&w.T[place])[c[0]] = c[1]
			mayAs(t, w, true)
		}
		w := copied(base)
		w.T[place] = api.Task{}
		mayAs(t, w, false)
	}
}

// P17.1: a job that must have ended by Now, one before it, and one behind it; At of Now, and one beyond.
func TestMayByWhenAJobMustHaveEnded(t *testing.T) {
	for _, s := range []api.Spec{one, of(2, 10, 20, 2, 2, 3), of(3, 10, 20, 2, 5, 3)} {
		for due, want := range map[int]bool{99: false, 100: false, 101: true, 102: true, 148: true, 149: false} {
			for n := range 6 {
				for place := range 2 {
					w := at(100, rests(1, one, 10, 120, 3), rests(2, one, 10, 120, 3))
					w.T[place] = works(1+place, s, 10, 90, due, n, 2, 1)
					mayAs(t, w, want)
				}
			}
		}
		for at1, want := range map[int]bool{99: false, 100: true, 101: true, 148: true, 149: false, 0: false, -100: false, math.MaxInt: false, math.MinInt: false} {
			mayAs(t, at(100, rests(1, s, 10, at1, 3)), want)
		}
	}
	// At the beginning, and at the end of the time.
	mayAs(t, at(0, rests(1, one, 10, 0, 0)), true)
	mayAs(t, at(0, rests(1, one, 10, 48, 0)), true)
	mayAs(t, at(0, rests(1, one, 10, 49, 0)), false)
	mayAs(t, at(0, works(1, one, 10, 0, 10, 0, 2, 0)), false)
	mayAs(t, at(1, works(1, one, 10, 0, 10, 0, 2, 0)), true)
	mayAs(t, at(end, rests(1, one, 10, end+48, 0)), true)
	mayAs(t, at(end, rests(1, one, 10, end+49, 0)), false)
	mayAs(t, at(end, works(1, one, 10, end-1, end+48, 0, 2, 0)), true)
	mayAs(t, at(end, works(1, one, 10, end-1, end, 0, 2, 0)), false)
	mayAs(t, at(end, works(1, one, 10, end-1, end+1, 0, 2, 0)), true)
}

// P17.1: two worlds that differ in just one part, for each part.
func TestSameByEachPart(t *testing.T) {
	wrong := at(-5, api.Task{}, api.Task{J: api.Job{On: true}}, rests(-7, api.Spec{}, 0, 9, 70))
	for _, base := range []api.World{three(), at(0), with(at(3), ape(1, 2, 3, 4, 5)), at(7, rests(3, one, 10, 9, 5)), with(wrong, api.Ape{}, ape(-1, -1, -1, -1, -1), ape(-1, -1, -1, -1, -1))} {
		if !Same(base, base) || !Same(base, copied(base)) {
			t.Errorf("Same(%+v): no", base)
		}
		w := copied(base)
		differs := func(what string) {
			t.Helper()
			if Same(base, w) || Same(w, base) || !Same(w, copied(w)) {
				t.Errorf("%s: Same(%+v, %+v)", what, base, w)
			}
		}
		for _, n := range numbers(&w) {
			was := *n
			for _, *n = range []int{was + 1, was - 1, ^was, was ^ 1<<32, was ^ math.MinInt} {
				differs("a number")
			}
			*n = was
		}
		for _, b := range yesNo(&w) {
			*b = !*b
			differs("yes and no")
			*b = !*b
		}
		for i := range w.T {
			h := &w.T[i].H
			for bit := range 64 {
				h.B ^= 1 << bit
				differs("an outcome")
				h.B ^= 1 << bit
			}
		}
		if !Same(base, w) {
			t.Errorf("Same(%+v, %+v): no", base, w)
		}
	}
}

// P17.1: the order and the length of each list count; whether one without elements is nil or empty does not.
func TestSameByTheLists(t *testing.T) {
	a, b, c := rests(1, one, 10, 110, 3), rests(2, one, 10, 110, 3), rests(3, one, 10, 110, 3)
	p, q, r := ape(1, 110, 4, 5, 2), ape(2, 110, 4, 5, 2), ape(3, 110, 4, 5, 2)
	worlds := []api.World{
		at(100), at(100, a), at(100, b), at(100, a, b), at(100, b, a), at(100, a, b, c), at(100, a, c, b), at(100, c, b, a), at(100, a, a), at(100, a, a, a), at(100, a, b, b), at(100, a, a, b), at(100, b, a, a), at(100, api.Task{}), at(100, api.Task{}, api.Task{}),
		with(at(100), p), with(at(100), q), with(at(100), p, q), with(at(100), q, p), with(at(100), p, q, r), with(at(100), p, r, q), with(at(100), r, q, p), with(at(100), p, p), with(at(100), p, p, p), with(at(100), p, q, q), with(at(100), p, p, q), with(at(100), q, p, p), with(at(100), api.Ape{}), with(at(100), api.Ape{}, api.Ape{}),
		with(at(100, a), p), with(at(100, a, b), p), with(at(100, a), p, q), with(at(100, b, a), q, p), with(at(100, a, b, c, a, b), p, q, r, p, q),
	}
	for i, x := range worlds {
		for k, y := range worlds {
			if Same(x, y) != (i == k) || Same(copied(x), y) != (i == k) {
				t.Errorf("Same(%+v, %+v): %v", x, y, i != k)
			}
		}
	}
	for _, x := range []api.World{at(3), at(-3), {Now: 3}} {
		none := x
		for i, y := range []api.World{{T: []api.Task{}}, {A: []api.Ape{}}, {T: []api.Task{}, A: []api.Ape{}}, {T: []api.Task{a}[:0], A: []api.Ape{p}[1:]}} {
			y.Now, y.Cur = x.Now, x.Cur
			if !Same(none, y) || !Same(y, none) || !Same(y, y) {
				t.Errorf("%d: Same(%#v, %#v): no", i, none, y)
			}
			holds(t, y, []int{})
		}
	}
}

// P17.1: tasks as they are looked on: with a job and without one, ahead of a turn and behind it, in order, also of worlds that may not be.
func TestLivesAsWritten(t *testing.T) {
	s := of(4, 10, 20, 2, 5, 3)
	x := works(5, s, 15, 98, 110, 7, 6, 2)
	x.P = 12
	y := rests(2, one, 20, 105, 61)
	y.P = 4
	lx := api.Live{S: s, P: 15, At: 110, N: 8, J: api.Job{On: true, J: 7, Rel: 98, Due: 110, Mand: true, C: 4, D: 4, Ran: 2}}
	ly := api.Live{S: one, P: 20, At: 105, N: 61}
	for i, c := range []struct {
		w    api.World
		want []api.Live
	}{
		{at(100), nil}, {at(100, x), []api.Live{lx}}, {at(100, y), []api.Live{ly}}, {at(100, y, x), []api.Live{ly, lx}}, {at(100, x, y), []api.Live{lx, ly}},
		{at(-7, x, y, x, y, x, x), []api.Live{lx, ly, lx, ly, lx, lx}}, {api.World{}, nil}, {at(0, api.Task{}, y, api.Task{}), []api.Live{{}, ly, {}}},
		{with(at(100, y), ape(1, 2, 3, 4, 5)), []api.Live{ly}}, {with(at(100), ape(1, 110, 3, 4, 2)), nil},
	} {
		if got := Lives(c.w); !slices.Equal(got, c.want) {
			t.Errorf("%d: Lives(%+v): %+v, not %+v", i, c.w, got, c.want)
		}
	}
}

// P17.2: worlds that demand's Test refuses alone, that live's Look refuses alone, that both refuse, and that none of them refuses; and such as may not be, though neither refuses them.
func TestSafeAsWritten(t *testing.T) {
	// 2 left, mandatory, till due; the period passes.
	tight := func(due int) api.Task { return works(1, of(4, 10, 20, 1, 2, 3), 12, 90, due, 4, 4, 2) }
	free := works(1, of(4, 10, 20, 1, 2, 3), 12, 90, 101, 5, 4, 2)
	count := map[[2]bool]int{}
	for i, c := range []struct {
		w    api.World
		want bool
	}{
		{at(100), true}, {api.World{}, true}, {three(), true},
		{at(100, rests(1, firm(3, 5), 5, 100, 0)), true}, {at(100, rests(1, firm(3, 5), 5, 100, 0), rests(2, firm(1, 4), 4, 100, 0)), true},
		// too many units; units that fit, but a stretch that is too short
		{at(100, rests(1, firm(3, 5), 5, 100, 0), rests(2, firm(2, 5), 5, 100, 0)), false}, {at(100, rests(1, firm(6, 6), 6, 101, 0)), false}, {at(100, rests(1, of(6, 6, 6, 1, 2, 0), 6, 100, 0)), true},
		{at(100, rests(1, of(6, 6, 6, 1, 2, 0), 6, 100, 0), rests(2, of(1, 6, 6, 1, 6, 0), 6, 120, 0)), false}, {at(100, rests(1, of(5, 6, 6, 1, 2, 0), 6, 100, 0), rests(2, of(1, 6, 6, 1, 6, 0), 6, 120, 0)), true},
		// 2 left till 102, and till 101
		{at(100, tight(102)), true}, {at(100, tight(101)), false}, {at(100, tight(103)), true}, {at(100, free), true},
		// one begins now, or one time on, while 3 are left till 104
		{at(100, works(1, firm(5, 12), 12, 99, 104, 0, 5, 2), rests(2, firm(1, 4), 4, 100, 0)), true}, {at(100, works(1, firm(5, 12), 12, 99, 104, 0, 5, 2), rests(2, firm(2, 4), 4, 100, 0)), false}, {at(100, works(1, firm(5, 12), 12, 99, 104, 0, 5, 2), rests(2, firm(2, 4), 4, 101, 0)), true},
		// job 1 of 1 of 2 need not run
		{at(100, works(1, firm(5, 12), 12, 99, 104, 0, 5, 2), rests(2, of(2, 4, 4, 1, 2, 0), 4, 100, 1)), true}, {at(100, works(1, firm(5, 12), 12, 99, 104, 0, 5, 2), rests(2, of(2, 4, 4, 1, 2, 0), 4, 100, 2)), false},
		// two that are there
		{at(100, works(1, firm(3, 12), 12, 99, 103, 0, 3, 1), works(2, firm(3, 12), 12, 99, 104, 0, 3, 1)), true}, {at(100, works(1, firm(3, 12), 12, 99, 103, 0, 3, 1), works(2, firm(3, 12), 12, 99, 103, 0, 3, 1)), false}, {at(100, works(1, firm(3, 12), 12, 99, 103, 0, 3, 0), works(2, firm(3, 12), 12, 99, 104, 0, 3, 1)), false},
		// both refuse
		{at(100, works(1, firm(6, 7), 7, 99, 104, 0, 6, 1), rests(2, firm(6, 7), 7, 100, 0)), false}, {at(100, works(1, firm(6, 6), 6, 99, 101, 0, 6, 1)), false},
		// it might run as long as it may, though it would not; and not longer than that, though it would
		{at(100, works(1, one, 10, 99, 101, 0, 1, 0)), false}, {at(100, works(1, one, 10, 99, 102, 0, 1, 0)), true}, {at(100, works(1, one, 10, 99, 102, 0, 20, 0)), true}, {at(100, works(1, one, 10, 99, 101, 0, 20, 0)), false}, {at(100, works(1, one, 10, 99, 101, 0, 20, 1)), true},
		// neither refuses, but they may not be
		{at(-1), false}, {at(end + 1), false}, {api.World{Cur: -2}, false}, {api.World{Cur: last + 1}, false}, {at(end+1, rests(1, one, 10, end+1, 0)), false}, {at(100, rests(1, one, 10, 100, 0), rests(1, one, 10, 100, 0)), false}, {at(100, rests(2, one, 10, 100, 0), rests(1, one, 10, 100, 0)), false},
		{at(100, works(1, one, 10, 90, 100, 1, 2, 0)), false}, {at(100, rests(-1, one, 10, 100, 0)), false}, {with(at(100), ape(2, 110, 1, 1, 0), ape(1, 110, 1, 1, 0)), false}, {with(at(100), api.Ape{}), false},
		// jobs that came once are nothing to it, though they can't end
		{with(at(100, tight(102)), ape(1, 101, 40, 1, 0), ape(2, 101, 40, 1, 0), ape(3, 1, 40, 1, 0), ape(4, 5, 40, 1000, 0)), true},
		// at the end of the time
		{at(end, works(1, one, 10, end-1, end+2, 0, 2, 0)), true}, {at(end, works(1, one, 10, end-1, end+1, 0, 2, 0)), false}, {at(end, rests(1, firm(3, 5), 5, end, last)), true},
	} {
		if Safe(c.w) != c.want || refSafe(c.w) != c.want {
			t.Errorf("%d: Safe(%+v): %v, by the words %v", i, c.w, Safe(c.w), refSafe(c.w))
		}
		if refMay(c.w) {
			count[[2]bool{refTest(c.w.T, nexts(c.w.T)), refLook(refLives(c.w), c.w.Now)}]++
		}
	}
	for _, c := range [][2]bool{{true, true}, {true, false}, {false, true}, {false, false}} {
		if count[c] < 2 {
			t.Errorf("%v", count)
		}
	}
}

// P17.2: by Next, and not by P, where these differ: for demand's Test, and for live's Look.
func TestSafeByNext(t *testing.T) {
	s := of(4, 5, 40, 1, 1, 1)
	pair := func(p, next int) api.World {
		x, y := rests(1, s, next, 100, 7), rests(2, s, 20, 105, 7)
		x.P = p
		return at(100, x, y)
	}
	// 4 of 5 and 4 of 20 are too much, 4 of 6 and 4 of 20 are not.
	for _, c := range []struct {
		p, next int
		want    bool
	}{
		{5, 40, true}, {40, 5, false}, {5, 6, true}, {6, 5, false}, {6, 6, true}, {5, 5, false}, {1, 6, true}, {48, 6, true}, {48, 5, false}, {4, 6, true},
	} {
		safeAs(t, pair(c.p, c.next), c.want)
	}
	// The first one has 6 left till 107; what the second one must have done by then goes by how far apart its jobs are.
	late := func(p, next int) api.World {
		x, y := works(1, of(6, 20, 20, 1, 1, 0), 20, 99, 107, 0, 6, 0), rests(2, of(2, 4, 40, 1, 1, 1), next, 100, 7)
		y.P = p
		return at(100, x, y)
	}
	for _, c := range []struct {
		p, next int
		want    bool
	}{
		{4, 20, true}, {20, 4, false}, {4, 4, false}, {20, 20, true}, {6, 8, true}, {8, 6, false}, {8, 8, true},
	} {
		if !refTest(late(c.p, c.next).T, []int{20, c.next}) {
			t.Errorf("%d does not pass", c.next)
		}
		safeAs(t, late(c.p, c.next), c.want)
	}
}

// P17.2: drawn worlds, of which demand's Test and live's Look refuse some alone, some together, and some not; and of those that may not be, none.
func TestSafeByItsMeaning(t *testing.T) {
	s := state(2)
	count := map[[2]bool]int{}
	other, spoilt := 0, 0
	for range 27000 {
		w := s.drawWorld()
		pass, idle := refTest(w.T, nexts(w.T)), refLook(refLives(w), w.Now)
		count[[2]bool{pass, idle}]++
		if pass != refTest(w.T, ps(w.T)) {
			other++
		}
		safeAs(t, w, pass && idle)
		if x := s.spoil(w); !refMay(x) {
			spoilt++
			safeAs(t, x, false)
		}
	}
	for _, c := range [][2]bool{{true, true}, {true, false}, {false, true}, {false, false}} {
		if count[c] < 500 {
			t.Errorf("%v", count)
		}
	}
	if other < 500 || spoilt < 500 {
		t.Errorf("%d and %d", other, spoilt)
	}
}

// P17.3: who begins, for how long, and who doesn't, told in full.
func TestBeginAsWritten(t *testing.T) {
	w := three()
	for i, c := range []struct {
		d           []int
		first, last int
	}{
		{nil, 2, 1}, {[]int{}, 2, 1}, {[]int{7}, 7, 1}, {[]int{7, 9}, 7, 9}, {[]int{7, 9, 11}, 7, 9}, {[]int{7, 9, 11, 13, 15, 17}, 7, 9}, {[]int{1, 1}, 1, 1}, {[]int{20, 20}, 20, 20}, {[]int{2, 1}, 2, 1},
		{[]int{0, 9}, 2, 9}, {[]int{21, 9}, 2, 9}, {[]int{-1, 9}, 2, 9}, {[]int{7, 0}, 7, 1}, {[]int{7, 21}, 7, 1}, {[]int{7, -1, 9}, 7, 1}, {[]int{0, 21, 7}, 2, 1}, {[]int{0}, 2, 1}, {[]int{21}, 2, 1},
		{[]int{math.MaxInt, math.MinInt, 5}, 2, 1}, {[]int{math.MinInt, 9}, 2, 9}, {[]int{1<<32 + 5, 9}, 2, 9}, {[]int{9, 1<<32 + 5}, 9, 1}, {[]int{256 + 5, 256 + 6}, 2, 1}, {[]int{19, 3}, 19, 3}, {[]int{3, 2}, 3, 2},
	} {
		want := copied(w)
		want.T[0] = api.Task{
			ID: 3, S: one, P: 15, Next: 15, At: 115, N: 5, H: api.Ring{N: 4, B: 15}, Kept: c.first <= 2,
			J: api.Job{On: true, J: 4, Rel: 100, Due: 115, Mand: true, C: 2, D: c.first},
		}
		want.T[2] = api.Task{
			ID: 9, S: firm(1, 6), P: 6, Next: 6, At: 106, N: 62, H: api.Ring{N: 60, B: 1<<60 - 1}, Kept: c.last <= 1,
			J: api.Job{On: true, J: 61, Rel: 100, Due: 106, Mand: true, C: 1, D: c.last},
		}
		x, ids := Begin(w, c.d)
		if !same(x, want) || !slices.Equal(ids, []int{3, 9}) {
			t.Errorf("%d: Begin(%+v, %v): %+v %v, not %+v", i, w, c.d, x, ids, want)
		}
		holds(t, w, c.d)
	}
}

// P17.3: each of up to four tasks begins, or does not: those that don't take no number of d.
func TestBeginOfEachOfThem(t *testing.T) {
	d := []int{5, 0, 20, 21, 7}
	for n := range tasks + 1 {
		for begins := range 1 << n {
			for there := range 1 << n {
				w := with(at(100), ape(1, 110, 3, 4, 2))
				var ids, long []int
				for i := range n {
					x := rests(2*i, of(4, 10, 20, 1, 2, 3), 10+i, 100, i)
					switch {
					case begins>>i&1 == 1:
						ids = append(ids, 2*i)
						long = append(long, []int{5, 4, 20, 4}[len(long)])
					case there>>i&1 == 1:
						x = works(2*i, of(4, 10, 20, 1, 2, 3), 10+i, 99, 101, i, 3, 2)
					default:
						x.At = 101
					}
					w.T = append(w.T, x)
				}
				if begins&there != 0 {
					continue
				}
				x, l := Begin(w, d)
				if !slices.Equal(l, ids) || !slices.Equal(x.A, w.A) || x.Now != 100 || x.Cur != -1 || len(x.T) != n {
					t.Errorf("Begin(%+v): %+v %v, not %v", w, x, l, ids)
				}
				for i, y := range x.T {
					if begins>>i&1 == 0 {
						if y != w.T[i] {
							t.Errorf("Begin(%+v): %+v", w, y)
						}
						continue
					}
					if want := (api.Job{On: true, J: i, Rel: 100, Due: 110 + i, Mand: i%2 == 0, C: 4, D: long[0]}); y.J != want || y.N != i+1 || y.At != 110+i || y.Kept != (long[0] <= 4) {
						t.Errorf("Begin(%+v): %+v, not %+v", w, y, want)
					}
					long = long[1:]
				}
				for count := range 7 {
					holds(t, w, []int{5, 0, 20, 21, 7, 1}[:count])
				}
			}
		}
	}
}

// P17.3: one that begins takes its period, whatever it was, and what it was Kept, mandatory or not, job 0 and the greatest.
func TestBeginByWhatItIs(t *testing.T) {
	for i, c := range []struct {
		now, n, p, next int
		kept            bool
		d               []int
	}{
		{0, 0, 10, 10, true, nil}, {0, 0, 48, 20, true, []int{2}}, {0, 1, 1, 10, true, []int{3}}, {0, 1, 1, 10, false, []int{2}}, {5, 59, 9, 13, true, []int{20}}, {5, 60, 9, 13, false, []int{1}}, {5, 61, 21, 10, true, []int{21}},
		{end, last, 10, 20, true, []int{2}}, {end, last - 1, 10, 20, true, []int{3}}, {end - 1, 3, 10, 20, false, []int{0}}, {end, 0, 48, 20, true, nil},
	} {
		x := rests(65536, one, c.next, c.now, c.n)
		x.P, x.Kept = c.p, c.kept
		would := 2
		if len(c.d) > 0 && c.d[0] >= 1 && c.d[0] <= 20 {
			would = c.d[0]
		}
		y := api.Task{
			ID: 65536, S: one, P: c.next, Next: c.next, At: c.now + c.next, N: c.n + 1, H: x.H, Kept: c.kept && would <= 2,
			J: api.Job{On: true, J: c.n, Rel: c.now, Due: c.now + c.next, Mand: c.n%2 == 0, C: 2, D: would},
		}
		w, want := at(c.now, x), at(c.now, y)
		w.Cur, want.Cur = 7, 7
		if got, ids := Begin(w, c.d); !same(got, want) || !slices.Equal(ids, []int{65536}) {
			t.Errorf("%d: Begin(%+v, %v): %+v %v, not %+v", i, w, c.d, got, ids, want)
		}
		holds(t, w, c.d)
	}
	// Each d of each C.
	for c := 1; c <= 6; c++ {
		for d := -3; d <= 25; d++ {
			w, _ := Begin(at(7, rests(0, of(c, 10, 20, 1, 2, 3), 10, 7, 1)), []int{d})
			would := d
			if d < 1 || d > 20 {
				would = c
			}
			if w.T[0].J.D != would || w.T[0].Kept != (would <= c) {
				t.Errorf("C %d, d %d: %+v", c, d, w.T[0])
			}
		}
	}
}

// P17.3: of a world that may not be nothing begins, though its tasks would.
func TestBeginOfWhatMayNotBe(t *testing.T) {
	x, y := rests(1, one, 10, 100, 4), rests(2, one, 10, 100, 4)
	spoilt := y
	spoilt.S.C = 0
	late := at(end+1, x)
	late.T[0].At = end + 1
	astray := three()
	astray.Cur = -2
	for _, w := range []api.World{
		at(100, y, x), at(100, x, x), at(100, x, spoilt), at(100, x, y, rests(3, one, 10, 100, 4), rests(4, one, 10, 100, 4), rests(5, one, 10, 100, 4)), late, astray,
		at(-1, rests(1, one, 10, -1, 4)), at(100, x, rests(2, one, 10, 99, 4)), at(100, x, works(2, one, 10, 90, 100, 4, 2, 1)), at(100, x, works(2, one, 10, 100, 110, 4, 2, 1)), at(100, x, api.Task{}),
		with(at(100, x, y), api.Ape{}), with(at(100, x, y), ape(2, 110, 3, 4, 2), ape(1, 110, 3, 4, 2)), with(at(100, x), ape(1, 110, 3, 4, 2), ape(1, 110, 3, 4, 2)), with(at(100, x), ape(1, 110, 3, 4, 3)),
	} {
		mayAs(t, w, false)
		for _, d := range [][]int{nil, {}, {1}, {7, 7, 7}, {0}} {
			if got, ids := Begin(w, d); !same(got, w) || len(ids) != 0 {
				t.Errorf("Begin(%+v, %v): %+v %v", w, d, got, ids)
			}
		}
		holds(t, w, []int{3})
	}
}

// P17.4: jobs that were missed, mandatory and not, and such as were not, told in full, also of worlds that may not be.
func TestEndAsWritten(t *testing.T) {
	must := works(3, one, 10, 90, 100, 4, 2, 1)
	free := works(5, one, 10, 90, 100, 5, 2, 1)
	still := works(7, one, 10, 90, 101, 4, 2, 1)
	none := rests(9, one, 10, 100, 4)
	late := works(2, of(3, 10, 20, 2, 5, 3), 12, 3, 7, 60, 20, 2)
	over := func(x api.Task) api.Task {
		x.J = api.Job{}
		x.H = refPut(x.H)
		return x
	}
	if h := over(must).H; h != (api.Ring{N: 5, B: 30}) {
		t.Fatalf("%+v", h)
	}
	if h := over(late).H; h != (api.Ring{N: 60, B: 1<<60 - 2}) {
		t.Fatalf("%+v", h)
	}
	p, q := ape(1, 100, 3, 4, 2), ape(1, -100, -3, 4, 2)
	for i, c := range []struct {
		w, want api.World
		ids     []int
	}{
		{at(100), at(100), nil}, {api.World{}, api.World{}, nil},
		{at(100, must), at(100, over(must)), []int{3}}, {at(99, must), at(99, must), nil}, {at(101, must), at(101, over(must)), []int{3}}, {at(end, must), at(end, over(must)), []int{3}},
		{at(100, free), at(100, over(free)), nil}, {at(99, free), at(99, free), nil}, {at(101, free), at(101, over(free)), nil},
		{at(100, still), at(100, still), nil}, {at(101, still), at(101, over(still)), []int{7}}, {at(100, none), at(100, none), nil}, {at(500, none), at(500, none), nil},
		{at(100, must, free, still, none), at(100, over(must), over(free), still, none), []int{3}}, {at(101, must, free, still, none), at(101, over(must), over(free), over(still), none), []int{3, 7}},
		{with(at(100, must), p), with(at(100, over(must)), p), []int{3}}, {with(at(100), p), with(at(100), p), nil}, {with(at(100, late), p), with(at(100, over(late)), p), []int{2}},
		// worlds that may not be
		{at(100, still, none, must, free), at(100, still, none, over(must), over(free)), []int{3}}, {at(101, still, free, must), at(101, over(still), over(free), over(must)), []int{7, 3}},
		{at(100, must, must, late, must), at(100, over(must), over(must), over(late), over(must)), []int{3, 3, 2, 3}}, {at(100, must, free, must, free, must, late), at(100, over(must), over(free), over(must), over(free), over(must), over(late)), []int{3, 3, 3, 2}},
		{at(math.MaxInt, must, still), at(math.MaxInt, over(must), over(still)), []int{3, 7}}, {at(math.MinInt, must, still), at(math.MinInt, must, still), nil}, {at(-1, must), at(-1, must), nil}, {at(clock, must), at(clock, over(must)), []int{3}},
		{with(at(100, must), q, q, q, q, q), with(at(100, over(must)), q, q, q, q, q), []int{3}}, {api.World{Now: 100, T: []api.Task{must}, Cur: -9}, api.World{Now: 100, T: []api.Task{over(must)}, Cur: -9}, []int{3}},
		{at(0, api.Task{J: api.Job{On: true}}), at(0, api.Task{H: api.Ring{N: 1}}), nil}, {at(0, api.Task{J: api.Job{On: true, Mand: true}}), at(0, api.Task{H: api.Ring{N: 1}}), []int{0}}, {at(0, api.Task{J: api.Job{Mand: true}}), at(0, api.Task{J: api.Job{Mand: true}}), nil},
		{at(-5, api.Task{ID: -4, At: 9, J: api.Job{On: true, Due: -5, Mand: true}, H: api.Ring{N: 77, B: 5}}), at(-5, api.Task{ID: -4, At: 9, H: api.Ring{N: 1}}), []int{-4}}, {at(-6, api.Task{ID: -4, J: api.Job{On: true, Due: -5, Mand: true}}), at(-6, api.Task{ID: -4, J: api.Job{On: true, Due: -5, Mand: true}}), nil},
	} {
		x, ids := End(c.w)
		if !same(x, c.want) || !slices.Equal(ids, c.ids) {
			t.Errorf("%d: End(%+v): %+v %v, not %+v %v", i, c.w, x, ids, c.want, c.ids)
		}
		holds(t, c.w, nil)
		// What is over is over but once.
		endAs(t, x, x)
	}
}

// P17.1 to P17.4: a row of calls, told in full.
func TestRowAsWritten(t *testing.T) {
	s := of(3, 4, 8, 1, 2, 3)
	x, _ := task.New(2, s, 5, 40)
	y, _ := task.New(4, firm(1, 3), 3, 42)
	w := at(40, x)
	w, ids := Begin(w, []int{4})
	if want := at(40, api.Task{ID: 2, S: s, P: 5, Next: 5, At: 45, N: 1, J: api.Job{On: true, Rel: 40, Due: 45, Mand: true, C: 3, D: 4}}); !same(w, want) || !slices.Equal(ids, []int{2}) {
		t.Fatalf("%+v %v", w, ids)
	}
	w.Now, w.T = 42, append(w.T, y)
	mayAs(t, w, true)
	safeAs(t, w, false)
	w.T[0], _ = task.Run(w.T[0])
	safeAs(t, w, true)
	w, ids = Begin(w, nil)
	if want := (api.Task{ID: 4, S: firm(1, 3), P: 3, Next: 3, At: 45, N: 1, J: api.Job{On: true, Rel: 42, Due: 45, Mand: true, C: 1, D: 1}, Kept: true}); w.T[1] != want || !slices.Equal(ids, []int{4}) {
		t.Fatalf("%+v %v", w, ids)
	}
	w.Now = 45
	mayAs(t, w, false)
	beginAs(t, w, nil, w)
	w, ids = End(w)
	if !slices.Equal(ids, []int{2, 4}) || w.T[0].J != (api.Job{}) || w.T[0].H != (api.Ring{N: 1}) || w.T[1].H != (api.Ring{N: 1}) {
		t.Fatalf("%+v %v", w, ids)
	}
	mayAs(t, w, true)
	w, ids = Begin(w, []int{1, 2})
	if !slices.Equal(ids, []int{2, 4}) || w.T[0].J != (api.Job{On: true, J: 1, Rel: 45, Due: 50, C: 3, D: 1}) || w.T[1].J != (api.Job{On: true, J: 1, Rel: 45, Due: 48, Mand: true, C: 1, D: 2}) || w.T[1].Kept {
		t.Fatalf("%+v %v", w, ids)
	}
	w.Now = 50
	w, ids = End(w)
	if !slices.Equal(ids, []int{4}) || w.T[0].H != (api.Ring{N: 2}) || w.T[0].N != 2 || w.T[1].At != 48 {
		t.Fatalf("%+v %v", w, ids)
	}
	// The second one should have begun at 48.
	mayAs(t, w, false)
}

// bases are worlds that may be: without anything, with tasks, with jobs that came once, and with both.
func bases() []api.World {
	return []api.World{
		at(100), three(), at(0, rests(0, one, 10, 0, 0)), at(end, rests(last-1, firm(6, 48), 48, end, last), works(last, one, 20, end-1, end+48, last-1, 20, 1)),
		with(at(100), ape(0, 1, 1, 1, 0), ape(1, 150, 40, 1000, 39), ape(5, clock, 3, 4, 2), ape(last, 9, 9, 9, 8)),
		with(at(100, rests(1, one, 10, 100, 59), works(2, firm(1, 1), 1, 99, 101, 60, 1, 0), works(3, of(6, 47, 48, 5, 6, 7), 48, 0, 148, 61, 7, 5), rests(4, of(1, 1, 48, 1, 6, 8), 1, 148, 0)), ape(7, 110, 4, 4, 2)),
	}
}

// P17.1 to P17.4: worlds that may be, with one field near all edges, up to the greatest and down to the least, held against the words.
func TestEachFieldNearAllEdges(t *testing.T) {
	count := map[bool]int{}
	turn := 0
	for _, base := range bases() {
		if !May(base) {
			t.Fatalf("May(%+v): no", base)
		}
		w := copied(base)
		fields, flags := numbers(&w), yesNo(&w)
		for _, n := range fields {
			was := *n
			for _, *n = range near {
				may := holds(t, w, []int{7, 0, 21})
				count[may]++
				if may {
					safeAs(t, w, refSafe(w))
				}
				if len(flags) > 0 {
					b := flags[turn%len(flags)]
					turn++
					*b = !*b
					holds(t, w, nil)
					*b = !*b
				}
			}
			*n = was
		}
		for _, b := range flags {
			*b = !*b
			holds(t, w, nil)
			*b = !*b
		}
		for _, d := range near {
			for _, e := range near {
				holds(t, w, []int{d, e})
			}
		}
	}
	if count[true] < 500 || count[false] < 500 {
		t.Errorf("%v", count)
	}
}

// P17.1 to P17.4: two fields near the edges, and far beyond them.
func TestTwoFieldsNearAllEdges(t *testing.T) {
	base := with(at(100, works(1, one, 10, 99, 101, 4, 2, 1), rests(2, one, 10, 100, 4)), ape(1, 110, 3, 4, 2), ape(3, 110, 3, 4, 2))
	w := copied(base)
	fields := numbers(&w)
	for i, n := range fields {
		for _, m := range fields[:i] {
			was, before := *n, *m
			for _, *n = range few {
				for _, *m = range few {
					mayAs(t, w, refMay(w))
				}
				holds(t, w, []int{7})
			}
			*n, *m = was, before
		}
	}
}

// P17.1 to P17.5: drawn worlds, such as may be, and the same with some of it changed. Of one that may be who begins does so just when its At is Now.
func TestDrawnWorlds(t *testing.T) {
	s := state(17)
	count := map[bool]int{}
	begins, others := 0, 0
	for range 60000 {
		w := s.drawWorld()
		d := s.drawLong()
		if !holds(t, w, d) {
			t.Fatalf("%+v may not be", w)
		}
		_, ids := Begin(w, d)
		for _, x := range w.T {
			if slices.Contains(ids, x.ID) != (x.At == w.Now) {
				t.Fatalf("Begin(%+v): %v", w, ids)
			}
			if x.At == w.Now {
				begins++
			} else {
				others++
			}
		}
		for range s.draw(1, 3) {
			w = s.spoil(w)
		}
		count[holds(t, w, d)]++
	}
	if count[true] < 1000 || count[false] < 1000 || begins < 10000 || others < 10000 {
		t.Errorf("%v %d %d", count, begins, others)
	}
}

// R1: zero ones, and such as are all the greatest, or all the least, are told of without a panic.
func TestZeroAndFarthest(t *testing.T) {
	for _, n := range []int{0, math.MaxInt, math.MinInt, -1, 1, end, last, clock} {
		for flags := range 8 {
			for _, many := range []int{0, 1, 2, 4, 5} {
				w := api.World{T: make([]api.Task, many), A: make([]api.Ape, many)}
				for _, field := range numbers(&w) {
					*field = n
				}
				for i, b := range yesNo(&w) {
					*b = flags>>(i%3)&1 == 1
				}
				for i := range w.T {
					w.T[i].H.B = uint64(n)
				}
				holds(t, w, []int{n, n})
				for _, now := range near {
					w.Now = now
					holds(t, w, nil)
				}
			}
		}
	}
}

// R1: many tasks, many jobs that came once, and a long d.
func TestLongLists(t *testing.T) {
	const many = 1 << 17
	w := at(100)
	for i := range many {
		w.T = append(w.T, works(i, one, 10, 90, 100, i%2, 2, 1))
		w.A = append(w.A, ape(i, 110, 3, 4, 2))
	}
	for _, x := range []api.World{w, {Now: 100, T: w.T, Cur: -1}, {Now: 100, A: w.A, Cur: -1}} {
		mayAs(t, x, false)
		safeAs(t, x, false)
		beginAs(t, x, nil, x)
		want, ids := refEnd(x)
		endAs(t, x, want, ids...)
		livesAs(t, x)
		if !Same(x, copied(x)) {
			t.Errorf("not the same as itself")
		}
		for _, n := range []int{many - 1, many / 2, 0} {
			y := copied(x)
			if len(y.T) > 0 {
				y.T[n].ID = -1
			} else {
				y.A[n].ID = -1
			}
			if Same(x, y) {
				t.Errorf("the same with another one at %d", n)
			}
		}
	}
	d := make([]int, 1<<21)
	d[0], d[1], d[2] = 5, 6, 7
	holds(t, three(), d)
}

// R3: what is handed in stays as it was, and what is answered is the caller's own.
func TestListsStayAsTheyWere(t *testing.T) {
	s := state(3)
	junk, stray := rests(77, one, 17, 77, 7), ape(77, 77, 7, 7, 7)
	for range 3000 {
		w := s.drawWorld()
		if s.draw(0, 2) == 0 {
			w = s.spoil(w)
		}
		d := s.drawLong()
		was, long := copied(w), slices.Clone(d)
		// there is room behind the lists, which is nobody's but the caller's
		w.T = append(make([]api.Task, 0, 20), w.T...)
		w.A = append(make([]api.Ape, 0, 20), w.A...)
		d = append(make([]int, 0, 20), d...)
		roomy := func(w api.World) api.World { return api.World{T: w.T[:20], A: w.A[:20]} }
		behind := copied(roomy(w))
		begun, ids := Begin(w, d)
		ended, missed := End(w)
		lives := Lives(w)
		for _, x := range []api.World{begun, ended} {
			for i := range x.T {
				x.T[i] = junk
			}
			for i := range x.A {
				x.A[i] = stray
			}
			x.T, x.A = append(x.T, junk), append(x.A, stray)
		}
		for i := range lives {
			lives[i] = api.Live{P: 78}
		}
		for i := range ids {
			ids[i] = 79
		}
		for i := range missed {
			missed[i] = 80
		}
		_, _, _ = append(lives, api.Live{}), append(ids, 79), append(missed, 80)
		May(w)
		Safe(w)
		Same(w, was)
		Same(was, w)
		if !same(w, was) || !same(roomy(w), behind) || !slices.Equal(d, long) || slices.ContainsFunc(d[len(d):20], func(n int) bool { return n != 0 }) {
			t.Fatalf("%+v, %v: %+v, %v", was, long, w, d)
		}
		holds(t, w, d)
		// what is answered stays when what was handed in changes
		begun, ids = Begin(w, d)
		ended, missed = End(w)
		lives = Lives(w)
		for i := range 20 {
			w.T[:20][i], w.A[:20][i], d[:20][i] = junk, stray, 20
		}
		Begin(roomy(w), d[:20])
		End(roomy(w))
		Lives(roomy(w))
		wantBegun, wantIDs := refBegin(was, long)
		wantEnded, wantMissed := refEnd(was)
		if !same(begun, wantBegun) || !slices.Equal(ids, wantIDs) || !same(ended, wantEnded) || !slices.Equal(missed, wantMissed) || !slices.Equal(lives, Lives(was)) {
			t.Fatalf("%+v, %v: %+v %v, %+v %v, %+v", was, long, begun, ids, ended, missed, lives)
		}
	}
}

// R5: what is asked again is told again, whatever was asked in between.
func TestAskedAgain(t *testing.T) {
	s := state(5)
	for range 1500 {
		w, other := s.drawWorld(), s.drawWorld()
		d := s.drawLong()
		begun, ids := Begin(w, d)
		ended, missed := End(w)
		lives, safe := Lives(w), Safe(w)
		Begin(other, s.drawLong())
		End(other)
		Lives(other)
		Safe(other)
		Same(w, other)
		begunToo, idsToo := Begin(w, d)
		endedToo, missedToo := End(w)
		if !same(begun, begunToo) || !slices.Equal(ids, idsToo) || !same(ended, endedToo) || !slices.Equal(missed, missedToo) || !slices.Equal(lives, Lives(w)) || safe != Safe(w) || !May(w) {
			t.Fatalf("%+v", w)
		}
	}
}

// tick leads a world that may be through one time: jobs begin, one or none runs, a task may turn, and jobs end. It counts who begins, and who doesn't.
func tick(t *testing.T, s *state, w api.World, count map[bool]int) api.World {
	t.Helper()
	next, ids := Begin(w, s.drawLong())
	for i, x := range w.T {
		began := slices.Contains(ids, x.ID)
		if began != (x.At == w.Now) || began != (next.T[i].N == x.N+1) || !began && next.T[i] != x {
			t.Fatalf("Begin(%+v): %+v %v", w, next, ids)
		}
		count[began]++
	}
	if len(next.T) > 0 {
		x := &next.T[s.draw(0, len(next.T)-1)]
		*x, _ = task.Run(*x)
		if s.draw(0, 50) == 0 {
			*x, _ = task.Turn(*x, x.S, s.draw(x.S.T, x.S.Max))
		}
	}
	next.Now++
	ended, missed := End(next)
	for i, x := range next.T {
		late := x.J.On && x.J.Due == next.Now
		if late != (ended.T[i] != x) || slices.Contains(missed, x.ID) != (late && x.J.Mand) {
			t.Fatalf("End(%+v): %+v %v", next, ended, missed)
		}
	}
	return ended
}

// P17.5: over long rows of times, of worlds that are begun, run and ended, to which tasks come new, and which they leave: who begins does so just when its At is Now.
func TestWhoBeginsDoesSoAtItsTime(t *testing.T) {
	s := state(175)
	count := map[bool]int{}
	for range 120 {
		w := s.drawWorld()
		if w.Now >= end-50 {
			w = at(end - 1000)
		}
		// Numbers of jobs end, too.
		w.T = slices.DeleteFunc(w.T, func(x api.Task) bool { return x.N > last-1000 })
		for range 900 {
			if !May(w) {
				t.Fatalf("May(%+v): no", w)
			}
			w = tick(t, &s, w, count)
			if len(w.T) < tasks && s.draw(0, 60) == 0 {
				id, spec := 0, s.drawSpec()
				if len(w.T) > 0 {
					id = w.T[len(w.T)-1].ID + 1
				}
				x, ok := task.New(id, spec, spec.T, w.Now)
				if !ok {
					t.Fatalf("New(%d, %+v, %d, %d): no", id, spec, spec.T, w.Now)
				}
				w.T = append(w.T, x)
			}
			if len(w.T) > 0 && s.draw(0, 300) == 0 {
				i := s.draw(0, len(w.T)-1)
				w.T = slices.Delete(w.T, i, i+1)
			}
		}
	}
	if count[true] < 10000 || count[false] < 100000 {
		t.Errorf("%v", count)
	}
}
