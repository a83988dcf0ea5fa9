package option

import (
	"math"
	"math/big"
	"slices"
	"testing"

	"fusee/api"
	"fusee/job"
)

// remembered is told by its number, so that a test fails if it is taken for another one.
const remembered = 60

// opt is one of three numbers.
func opt(far, due, id int) api.Opt {
	return api.Opt{Far: far, Due: due, ID: id}
}

// list is such ones as they stand, three numbers each.
func list(n ...int) []api.Opt {
	var l []api.Opt
	for i := 0; i < len(n); i += 3 {
		l = append(l, opt(n[i], n[i+1], n[i+2]))
	}
	return l
}

// near are numbers at the edges of all fields, and far beyond them.
var near = []int{
	math.MinInt, math.MinInt + 1, math.MinInt + 20, -1 << 62, -1<<40 - 1, -1 << 40, -1 << 32, -1 << 31, -65536, -256, -7, -6, -2, -1, 0, 1, 2, 3, 4, 5, 6, 7, 8, 19, 20, 21, 47, 48, 49, 59, 60, 61, 62, 63, 64, 65, 255, 256, 257,
	65535, 65536, 1 << 31, 1 << 32, 1 << 38, 1 << 39, 1<<40 - 1, 1 << 40, 1<<40 + 1, 1 << 62, math.MaxInt - 20, math.MaxInt - 1, math.MaxInt,
}

// few are some of them, for what is held against each other one.
var few = []int{math.MinInt, math.MinInt + 1, -1<<40 - 1, -1, 0, 1, 2, 1<<40 + 1, math.MaxInt - 1, math.MaxInt}

// fields are one's numbers, each to be set by itself.
func fields(o *api.Opt) []*int {
	return []*int{&o.Far, &o.Due, &o.ID}
}

// state is where drawing stands; each test that draws begins anew.
type state uint64

func (s *state) draw(low, high int) int {
	*s = *s*6364136223846793005 + 1442695040888963407
	return low + int(*s>>33)%(high-low+1)
}

// drawOpt is one of so few numbers that others are often the same, in one field, in two, or in all.
func (s *state) drawOpt(wide int) api.Opt {
	return opt(s.draw(0, wide), s.draw(0, wide), s.draw(0, wide))
}

// The references below say by the document's words what is so, without the layers below.

func refLess(a, b api.Opt) bool {
	return a.Far < b.Far || a.Far == b.Far && a.Due < b.Due || a.Far == b.Far && a.Due == b.Due && a.ID < b.ID
}

// refSort puts each one behind all that it is not less than.
func refSort(l []api.Opt) []api.Opt {
	var sorted []api.Opt
	for _, o := range l {
		at := len(sorted)
		for at > 0 && refLess(o, sorted[at-1]) {
			at--
		}
		sorted = slices.Insert(sorted, at, o)
	}
	return sorted
}

// refFirst asks of each one all other ones.
func refFirst(l []api.Opt) int {
	for i, o := range l {
		if !slices.ContainsFunc(l, func(p api.Opt) bool { return refLess(p, o) }) {
			return i
		}
	}
	return -1
}

// refLeft tells whether a job that is there has anything left, and whether that is reckoned in 64 bits.
func refLeft(j api.Job) (left, plain bool) {
	c, d := refRest(j.C, j.Ran), refRest(j.D, j.Ran)
	return c.Sign() > 0 && d.Sign() > 0, c.IsInt64() && d.IsInt64()
}

func refRest(long, ran int) *big.Int {
	return new(big.Int).Sub(big.NewInt(int64(long)), big.NewInt(int64(ran)))
}

// refFar puts bad ones behind the outcomes, and good ones ahead of them, as lists.
func refFar(h api.Ring, m, k int) int {
	if m < 1 || m > k || k > 6 {
		return k
	}
	var outcomes []bool
	if h.N >= 0 && h.N <= remembered && h.B < 1<<h.N {
		for i := h.N - 1; i >= 0; i-- {
			outcomes = append(outcomes, h.B>>i&1 == 1)
		}
	}
	n := 0
	for ; refEnough(outcomes, m, k); n++ {
		outcomes = append(outcomes, false)
	}
	return n
}

// refEnough tells whether of the last k outcomes m are good.
func refEnough(outcomes []bool, m, k int) bool {
	for len(outcomes) < k {
		outcomes = append([]bool{true}, outcomes...)
	}
	for _, good := range outcomes[len(outcomes)-k:] {
		if good {
			m--
		}
	}
	return m <= 0
}

func refOf(id int, s api.Spec, j api.Job, h api.Ring) (api.Opt, bool) {
	left, plain := refLeft(j)
	if !plain {
		// The chapter asks job here, and the document does not say what that reckons beyond 64 bits.
		left = job.Left(j) != 0
	}
	if !j.On || j.Mand || !left {
		return api.Opt{}, false
	}
	return opt(refFar(h, s.M, s.K), j.Due, id), true
}

// less fails if a is not just ahead of b, or just not.
func less(t *testing.T, a, b api.Opt) {
	t.Helper()
	if got := Less(a, b); got != refLess(a, b) {
		t.Errorf("Less(%v, %v): %v", a, b, got)
	}
	if got := Less(b, a); got != refLess(b, a) {
		t.Errorf("Less(%v, %v): %v", b, a, got)
	}
}

// holds fails if Sort or First tells of a list anything else than the words, or if it does not stay as it was.
func holds(t *testing.T, l []api.Opt) {
	t.Helper()
	was := slices.Clone(l)
	if got := Sort(l); !slices.Equal(got, refSort(l)) {
		t.Errorf("Sort(%v): %v, not %v", was, got, refSort(was))
	}
	if got := First(l); got != refFirst(l) {
		t.Errorf("First(%v): %d, not %d", was, got, refFirst(was))
	}
	if !slices.Equal(l, was) {
		t.Errorf("%v was changed: %v", was, l)
	}
}

// tells fails if Of tells anything else than the words.
func tells(t *testing.T, id int, s api.Spec, j api.Job, h api.Ring) {
	t.Helper()
	want, wanted := refOf(id, s, j, h)
	if got, ok := Of(id, s, j, h); got != want || ok != wanted {
		t.Errorf("Of(%d, %+v, %+v, %+v): %v %v, not %v %v", id, s, j, h, got, ok, want, wanted)
	}
}

// P14.1: the chapter's example: 2 far till 5 of 1; 1 far till 9 of 2: the second one.
func TestExample(t *testing.T) {
	l := list(2, 5, 1, 1, 9, 2)
	if First(l) != 1 || Less(l[0], l[1]) || !Less(l[1], l[0]) || !slices.Equal(Sort(l), list(1, 9, 2, 2, 5, 1)) {
		t.Errorf("%d %v %v %v", First(l), Less(l[0], l[1]), Less(l[1], l[0]), Sort(l))
	}
}

// P14.1: Less, told one by one: by Far, of one Far by Due, of one Far and Due by ID; of the same ones none.
func TestLessAsWritten(t *testing.T) {
	for i, c := range []struct {
		a, b api.Opt
		want bool
	}{
		{opt(1, 9, 9), opt(2, 0, 0), true}, {opt(2, 0, 0), opt(1, 9, 9), false}, {opt(1, 0, 0), opt(2, 9, 9), true}, {opt(2, 9, 9), opt(1, 0, 0), false}, {opt(1, 5, 5), opt(2, 5, 5), true}, {opt(2, 5, 5), opt(1, 5, 5), false},
		// two of one Far
		{opt(3, 1, 9), opt(3, 2, 0), true}, {opt(3, 2, 0), opt(3, 1, 9), false}, {opt(3, 1, 0), opt(3, 2, 9), true}, {opt(3, 2, 9), opt(3, 1, 0), false}, {opt(3, 1, 5), opt(3, 2, 5), true}, {opt(3, 2, 5), opt(3, 1, 5), false},
		// two of one Far and Due
		{opt(3, 4, 1), opt(3, 4, 2), true}, {opt(3, 4, 2), opt(3, 4, 1), false},
		// two that are the same in all
		{opt(3, 4, 5), opt(3, 4, 5), false}, {api.Opt{}, api.Opt{}, false},
		// two of one Due, of one ID, and of one Due and ID
		{opt(1, 4, 9), opt(2, 4, 0), true}, {opt(2, 4, 0), opt(1, 4, 9), false}, {opt(1, 9, 4), opt(2, 0, 4), true}, {opt(2, 0, 4), opt(1, 9, 4), false}, {opt(3, 1, 4), opt(3, 2, 4), true},
		// numbers below 0, the greatest, and the least
		{opt(-1, 9, 9), opt(0, 0, 0), true}, {opt(0, 0, 0), opt(-1, 9, 9), false}, {opt(3, -1, 9), opt(3, 0, 0), true}, {opt(3, 4, -1), opt(3, 4, 0), true}, {opt(3, 4, 0), opt(3, 4, -1), false}, {opt(-2, 0, 0), opt(-1, 0, 0), true},
		{opt(math.MinInt, 0, 0), opt(math.MaxInt, 0, 0), true}, {opt(math.MaxInt, 0, 0), opt(math.MinInt, 0, 0), false}, {opt(0, math.MinInt, 0), opt(0, math.MaxInt, 0), true}, {opt(0, math.MaxInt, 0), opt(0, math.MinInt, 0), false}, {opt(0, 0, math.MinInt), opt(0, 0, math.MaxInt), true}, {opt(0, 0, math.MaxInt), opt(0, 0, math.MinInt), false},
		{opt(math.MinInt, 0, 0), opt(1, 0, 0), true}, {opt(1, 0, 0), opt(math.MinInt, 0, 0), false}, {opt(-2, 0, 0), opt(math.MaxInt, 0, 0), true}, {opt(math.MaxInt, 0, 0), opt(-2, 0, 0), false}, {opt(1<<40+1, 0, 0), opt(1<<40, 0, 0), false}, {opt(1<<40, 0, 0), opt(1<<40+1, 0, 0), true},
		{opt(math.MinInt, math.MinInt, math.MinInt), opt(math.MinInt, math.MinInt, math.MinInt), false}, {opt(math.MaxInt, math.MaxInt, math.MaxInt), opt(math.MaxInt, math.MaxInt, math.MaxInt), false}, {opt(math.MaxInt, math.MaxInt, math.MaxInt-1), opt(math.MaxInt, math.MaxInt, math.MaxInt), true},
		// such as are the same in their lower halves
		{opt(1<<32, 0, 0), opt(0, 0, 0), false}, {opt(0, 0, 0), opt(1<<32, 0, 0), true}, {opt(0, 1<<32, 0), opt(0, 0, 1), false}, {opt(0, 0, 1<<32), opt(0, 0, 0), false}, {opt(0, 0, 0), opt(0, 0, 1<<32), true},
	} {
		if Less(c.a, c.b) != c.want {
			t.Errorf("%d: Less(%v, %v): %v", i, c.a, c.b, !c.want)
		}
	}
}

// P14.1: Sort and First, told one by one, at the edges that the issue of this layer names.
func TestListsAsWritten(t *testing.T) {
	for i, c := range []struct {
		l     []api.Opt
		first int
		want  []api.Opt
	}{
		// none, one, two, many
		{nil, -1, nil}, {[]api.Opt{}, -1, nil}, {list(3, 4, 5), 0, list(3, 4, 5)}, {list(0, 0, 0), 0, list(0, 0, 0)}, {list(1, 1, 1, 2, 2, 2), 0, list(1, 1, 1, 2, 2, 2)}, {list(2, 2, 2, 1, 1, 1), 1, list(1, 1, 1, 2, 2, 2)},
		// of one Far, of one Far and Due, and the same in all
		{list(3, 9, 0, 3, 8, 1), 1, list(3, 8, 1, 3, 9, 0)}, {list(3, 8, 1, 3, 9, 0), 0, list(3, 8, 1, 3, 9, 0)}, {list(3, 8, 2, 3, 8, 1), 1, list(3, 8, 1, 3, 8, 2)}, {list(3, 8, 1, 3, 8, 2), 0, list(3, 8, 1, 3, 8, 2)}, {list(3, 8, 1, 3, 8, 1), 0, list(3, 8, 1, 3, 8, 1)},
		// several that are the same: as many of each
		{list(5, 5, 5, 5, 5, 5, 5, 5, 5), 0, list(5, 5, 5, 5, 5, 5, 5, 5, 5)}, {list(2, 0, 0, 1, 0, 0, 2, 0, 0, 1, 0, 0, 2, 0, 0), 1, list(1, 0, 0, 1, 0, 0, 2, 0, 0, 2, 0, 0, 2, 0, 0)}, {list(0, 0, 0, 1, 0, 0, 0, 0, 0), 0, list(0, 0, 0, 0, 0, 0, 1, 0, 0)},
		// ordered, the other way round, and neither
		{list(0, 0, 1, 0, 1, 0, 0, 1, 1, 1, 0, 0, 1, 0, 1), 0, list(0, 0, 1, 0, 1, 0, 0, 1, 1, 1, 0, 0, 1, 0, 1)}, {list(1, 0, 1, 1, 0, 0, 0, 1, 1, 0, 1, 0, 0, 0, 1), 4, list(0, 0, 1, 0, 1, 0, 0, 1, 1, 1, 0, 0, 1, 0, 1)}, {list(1, 0, 0, 0, 1, 1, 1, 0, 1, 0, 0, 1, 0, 1, 0), 3, list(0, 0, 1, 0, 1, 0, 0, 1, 1, 1, 0, 0, 1, 0, 1)},
		// the first one at each place
		{list(1, 5, 5, 2, 4, 4, 3, 3, 3, 4, 2, 2), 0, list(1, 5, 5, 2, 4, 4, 3, 3, 3, 4, 2, 2)}, {list(2, 4, 4, 1, 5, 5, 3, 3, 3, 4, 2, 2), 1, list(1, 5, 5, 2, 4, 4, 3, 3, 3, 4, 2, 2)}, {list(2, 4, 4, 3, 3, 3, 1, 5, 5, 4, 2, 2), 2, list(1, 5, 5, 2, 4, 4, 3, 3, 3, 4, 2, 2)}, {list(2, 4, 4, 3, 3, 3, 4, 2, 2, 1, 5, 5), 3, list(1, 5, 5, 2, 4, 4, 3, 3, 3, 4, 2, 2)},
		// the first one there more than once
		{list(1, 1, 1, 2, 2, 2, 1, 1, 1), 0, list(1, 1, 1, 1, 1, 1, 2, 2, 2)}, {list(2, 2, 2, 1, 1, 1, 3, 3, 3, 1, 1, 1), 1, list(1, 1, 1, 1, 1, 1, 2, 2, 2, 3, 3, 3)}, {list(2, 2, 2, 3, 3, 3, 1, 1, 1, 1, 1, 1), 2, list(1, 1, 1, 1, 1, 1, 2, 2, 2, 3, 3, 3)},
		// far ones, and such as are below 0
		{list(math.MaxInt, 0, 0, math.MinInt, 0, 0, 0, 0, 0), 1, list(math.MinInt, 0, 0, 0, 0, 0, math.MaxInt, 0, 0)}, {list(0, math.MaxInt, 0, 0, math.MinInt, 0, 0, -1, 0), 1, list(0, math.MinInt, 0, 0, -1, 0, 0, math.MaxInt, 0)}, {list(0, 0, math.MaxInt, 0, 0, math.MinInt, 0, 0, 1<<40), 1, list(0, 0, math.MinInt, 0, 0, 1<<40, 0, 0, math.MaxInt)}, {list(-1, 0, 0, -2, 0, 0), 1, list(-2, 0, 0, -1, 0, 0)},
	} {
		if got := Sort(c.l); !slices.Equal(got, c.want) {
			t.Errorf("%d: Sort(%v): %v, not %v", i, c.l, got, c.want)
		}
		if got := First(c.l); got != c.first {
			t.Errorf("%d: First(%v): %d, not %d", i, c.l, got, c.first)
		}
	}
}

// P14.1: all lists of up to 5 of those of which each field is 0 or 1.
func TestAllShortLists(t *testing.T) {
	var longer func(l []api.Opt)
	longer = func(l []api.Opt) {
		holds(t, l)
		for n := 0; n < 8 && len(l) < 5; n++ {
			longer(append(slices.Clone(l), opt(n>>2, n>>1&1, n&1)))
		}
	}
	longer(nil)
}

// P14.1: each field, and two of them, near all edges, up to the greatest and down to the least, held against each other.
func TestEachFieldNearAllEdges(t *testing.T) {
	for i := range 3 {
		for _, n := range near {
			for _, m := range near {
				a, b := opt(2, 3, 4), opt(2, 3, 4)
				*fields(&a)[i], *fields(&b)[i] = n, m
				less(t, a, b)
				holds(t, []api.Opt{a, b, opt(2, 3, 4)})
				for k := range 3 {
					c, d := a, b
					*fields(&c)[k], *fields(&d)[(k+1)%3] = m, n
					less(t, c, d)
					less(t, a, d)
					holds(t, []api.Opt{d, c, b, a, d})
				}
			}
		}
	}
	var all []api.Opt
	for _, x := range few {
		for _, y := range few {
			for _, z := range few {
				all = append(all, opt(x, y, z))
			}
		}
	}
	for _, a := range all {
		for _, b := range all {
			less(t, a, b)
		}
	}
	slices.Reverse(all)
	holds(t, append(all, all...))
}

// P14.1: drawn lists of all lengths up to 60, of few kinds and of many, as they stand, ordered, and the other way round.
func TestDrawnLists(t *testing.T) {
	s := state(14)
	for range 20000 {
		wide := []int{1, 2, 5, 1000, 1 << 41}[s.draw(0, 4)]
		l := make([]api.Opt, s.draw(0, []int{4, 12, 60}[s.draw(0, 2)]))
		for i := range l {
			l[i] = s.drawOpt(wide)
			if s.draw(0, 5) == 0 {
				*fields(&l[i])[s.draw(0, 2)] = near[s.draw(0, len(near)-1)]
			}
		}
		holds(t, l)
		l = refSort(l)
		holds(t, l)
		slices.Reverse(l)
		holds(t, l)
	}
}

// P1: lists far longer than there are tasks are told of, too: all others, and all the same.
func TestLongLists(t *testing.T) {
	var falling, same []api.Opt
	for i := range 100000 {
		falling = append(falling, opt(7-i/30000, -i, i%3))
		same = append(same, opt(1, 2, 3))
	}
	if got := Sort(same); !slices.Equal(got, same) || First(same) != 0 {
		t.Errorf("same: %d, %d", len(got), First(same))
	}
	got := Sort(falling)
	slices.Reverse(falling)
	if !slices.Equal(got, falling) || First(got) != 0 || First(append(same, got...)) != 0 || First(append(got, got...)) != 0 {
		t.Errorf("falling: %d, %d", len(got), First(got))
	}
	slices.Reverse(got)
	if First(got) != 99999 {
		t.Errorf("%d", First(got))
	}
}

// spec is a description of M and K, whose jobs may run 3.
func spec(m, k int) api.Spec {
	return api.Spec{C: 3, T: 10, Max: 20, M: m, K: k, E: 1}
}

// optional is a job that need not run, of such a description, and would run 2.
func optional(due int) api.Job {
	return api.Job{On: true, J: 1, Rel: 4, Due: due, C: 3, D: 2}
}

// P14.2: of which jobs none is told, and of which it is, one by one.
func TestOfJobsAsWritten(t *testing.T) {
	h := api.Ring{N: 2, B: 3}
	for i, c := range []struct {
		j    api.Job
		want bool
	}{
		{optional(9), true}, {api.Job{}, false},
		// not On: whatever else is set
		{api.Job{J: 1, Rel: 4, Due: 9, C: 3, D: 2}, false}, {api.Job{J: 1, Rel: 4, Due: 9, Mand: true, C: 3, D: 2}, false},
		// mandatory: also one that is done, too
		{api.Job{On: true, J: 2, Rel: 4, Due: 9, Mand: true, C: 3, D: 2}, false}, {api.Job{On: true, Mand: true, Due: 9, C: 3, D: 3, Ran: 2}, false}, {api.Job{On: true, Mand: true, Due: 9, C: 3, D: 3, Ran: 3}, false},
		// done, and beyond
		{api.Job{On: true, Due: 9, C: 3, D: 2, Ran: 2}, false}, {api.Job{On: true, Due: 9, C: 6, D: 2, Ran: 5}, false}, {api.Job{On: true, Due: 9, C: 3, D: 3, Ran: 3}, false},
		// ran as long as it may, and beyond
		{api.Job{On: true, Due: 9, C: 3, D: 20, Ran: 3}, false}, {api.Job{On: true, Due: 9, C: 3, D: 20, Ran: 4}, false},
		// one time left: by both, by how long it may, and by how long it would
		{api.Job{On: true, Due: 9, C: 3, D: 3, Ran: 2}, true}, {api.Job{On: true, Due: 9, C: 3, D: 20, Ran: 2}, true}, {api.Job{On: true, Due: 9, C: 6, D: 3, Ran: 2}, true}, {api.Job{On: true, Due: 9, C: 1, D: 1}, true},
		// jobs that may not be
		{api.Job{On: true, Due: 9, C: 0, D: 2}, false}, {api.Job{On: true, Due: 9, C: 3, D: 0}, false}, {api.Job{On: true, Due: 9, C: -1, D: 2}, false}, {api.Job{On: true, Due: 9, C: 3, D: -1}, false}, {api.Job{On: true, Due: 9, C: 3, D: 2, Ran: -1}, true}, {api.Job{On: true, Due: 9, C: 0, D: 0, Ran: -1}, true},
		{api.Job{On: true, Due: 9}, false}, {api.Job{On: true}, false}, {api.Job{On: true, Due: 9, C: 7, D: 21}, true}, {api.Job{On: true, J: -5, Rel: 99, Due: 9, C: 3, D: 2}, true},
		{api.Job{On: true, Due: 9, C: math.MaxInt, D: math.MaxInt}, true}, {api.Job{On: true, Due: 9, C: math.MaxInt, D: math.MaxInt, Ran: math.MaxInt - 1}, true}, {api.Job{On: true, Due: 9, C: math.MaxInt, D: math.MaxInt, Ran: math.MaxInt}, false}, {api.Job{On: true, Due: 9, C: math.MinInt, D: math.MinInt, Ran: math.MinInt}, false}, {api.Job{On: true, Due: 9, C: math.MinInt, D: math.MaxInt}, false}, {api.Job{On: true, Due: 9, C: math.MaxInt, D: math.MinInt}, false}, {api.Job{On: true, Due: 9, C: math.MinInt, D: 3, Ran: math.MaxInt}, false},
	} {
		want := api.Opt{}
		if c.want {
			want = opt(2, c.j.Due, 7)
		}
		if got, ok := Of(7, spec(1, 2), c.j, h); got != want || ok != c.want {
			t.Errorf("%d: Of(%+v): %v %v, not %v %v", i, c.j, got, ok, want, c.want)
		}
	}
}

// P14.2: how far it is by M, K and the outcomes, one by one.
func TestOfOutcomesAsWritten(t *testing.T) {
	for i, c := range []struct {
		m, k int
		h    api.Ring
		far  int
	}{
		// no outcome: those that are missing are good
		{1, 1, api.Ring{}, 1}, {1, 2, api.Ring{}, 2}, {2, 2, api.Ring{}, 1}, {1, 6, api.Ring{}, 6}, {6, 6, api.Ring{}, 1}, {4, 6, api.Ring{}, 3},
		// fewer than K
		{1, 3, api.Ring{N: 1, B: 0}, 2}, {1, 3, api.Ring{N: 1, B: 1}, 3}, {3, 3, api.Ring{N: 1, B: 0}, 0}, {3, 3, api.Ring{N: 1, B: 1}, 1}, {2, 3, api.Ring{N: 2, B: 0}, 0}, {2, 3, api.Ring{N: 2, B: 2}, 1}, {2, 3, api.Ring{N: 2, B: 1}, 1},
		// just K: all good, all bad, as many good ones as must be, and one fewer
		{2, 4, api.Ring{N: 4, B: 15}, 3}, {2, 4, api.Ring{N: 4, B: 0}, 0}, {2, 4, api.Ring{N: 4, B: 3}, 3}, {2, 4, api.Ring{N: 4, B: 12}, 1}, {2, 4, api.Ring{N: 4, B: 5}, 2}, {2, 4, api.Ring{N: 4, B: 1}, 0}, {2, 4, api.Ring{N: 4, B: 8}, 0}, {1, 4, api.Ring{N: 4, B: 1}, 4}, {1, 4, api.Ring{N: 4, B: 8}, 1}, {4, 4, api.Ring{N: 4, B: 15}, 1}, {4, 4, api.Ring{N: 4, B: 7}, 0},
		// M of 1, and of K
		{1, 1, api.Ring{N: 3, B: 7}, 1}, {1, 1, api.Ring{N: 3, B: 6}, 0}, {1, 6, api.Ring{N: 6, B: 32}, 1}, {6, 6, api.Ring{N: 6, B: 63}, 1}, {6, 6, api.Ring{N: 7, B: 63}, 1}, {6, 6, api.Ring{N: 7, B: 126}, 0},
		// sixty
		{1, 6, api.Ring{N: 60, B: 1<<60 - 1}, 6}, {1, 6, api.Ring{N: 60}, 0}, {6, 6, api.Ring{N: 60, B: 1<<60 - 1}, 1}, {3, 6, api.Ring{N: 60, B: 7}, 4}, {3, 6, api.Ring{N: 60, B: 1<<59 | 3}, 0}, {3, 6, api.Ring{N: 60, B: 1<<60 - 64 + 3}, 0},
		// rings that may not be are as a zero one
		{2, 4, api.Ring{N: -1}, 3}, {2, 4, api.Ring{N: 61}, 3}, {2, 4, api.Ring{N: 4, B: 16}, 3}, {2, 4, api.Ring{N: 0, B: 1}, 3}, {2, 4, api.Ring{N: math.MaxInt, B: math.MaxUint64}, 3}, {2, 4, api.Ring{N: math.MinInt}, 3}, {2, 4, api.Ring{N: 64}, 3},
		// M and K that may not be: K
		{0, 4, api.Ring{N: 4}, 4}, {5, 4, api.Ring{N: 4}, 4}, {1, 7, api.Ring{N: 4}, 7}, {0, 0, api.Ring{N: 4}, 0}, {1, -3, api.Ring{N: 4}, -3}, {-1, 4, api.Ring{N: 4}, 4}, {1, math.MaxInt, api.Ring{}, math.MaxInt}, {1, math.MinInt, api.Ring{}, math.MinInt}, {math.MaxInt, 3, api.Ring{N: 1}, 3}, {math.MinInt, 3, api.Ring{N: 1}, 3},
	} {
		want := opt(c.far, 14, 5)
		if got, ok := Of(5, spec(c.m, c.k), optional(14), c.h); got != want || !ok {
			t.Errorf("%d: %d of %d, %+v: %v %v, not %v", i, c.m, c.k, c.h, got, ok, want)
		}
		if got, ok := Of(5, spec(c.m, c.k), api.Job{}, c.h); got != (api.Opt{}) || ok {
			t.Errorf("%d: %d of %d, %+v: %v %v, of no job", i, c.m, c.k, c.h, got, ok)
		}
	}
}

// P14.2: the number, and when the job must have ended, are told as they are: of 0, below 0, and far beyond.
func TestOfNumbersAsTheyAre(t *testing.T) {
	for _, id := range near {
		for _, due := range near {
			if got, ok := Of(id, spec(2, 3), optional(due), api.Ring{N: 3, B: 5}); got != opt(1, due, id) || !ok {
				t.Errorf("%d till %d: %v %v", id, due, got, ok)
			}
		}
	}
}

// P14.2: all M and K, those around them, too, by all outcomes up to 7, and by such of which only the last ones may count.
func TestOfAllOutcomes(t *testing.T) {
	for m := -1; m <= 8; m++ {
		for k := -1; k <= 8; k++ {
			for n := -1; n <= 7; n++ {
				for b := range uint64(257) {
					tells(t, 3, spec(m, k), optional(9), api.Ring{N: n, B: b})
				}
			}
			for b := range uint64(256) {
				for _, n := range []int{8, 59, 60, 61, 63, 64, 65} {
					tells(t, 3, spec(m, k), optional(9), api.Ring{N: n, B: b})
					tells(t, 3, spec(m, k), optional(9), api.Ring{N: n, B: b | 1<<59})
					tells(t, 3, spec(m, k), optional(9), api.Ring{N: n, B: b | 1<<60})
				}
			}
		}
	}
}

// P14.2: all jobs around those that may be, by how long they may run, would, and ran.
func TestOfAllJobs(t *testing.T) {
	for c := -1; c <= 8; c++ {
		for d := -1; d <= 22; d++ {
			for ran := -1; ran <= 23; ran++ {
				for bits := range 4 {
					j := api.Job{On: bits&1 == 1, Mand: bits&2 == 2, J: 1, Rel: 2, Due: 9, C: c, D: d, Ran: ran}
					tells(t, 3, spec(1, 2), j, api.Ring{N: 1, B: 1})
				}
			}
		}
	}
}

// numbers are those of a description, a job, and outcomes, each to be set by itself.
func numbers(s *api.Spec, j *api.Job, h *api.Ring) []*int {
	return []*int{&s.C, &s.T, &s.Max, &s.M, &s.K, &s.E, &j.J, &j.Rel, &j.Due, &j.C, &j.D, &j.Ran, &h.N}
}

// P14.2: one number of what is handed in, and two, near all edges, up to the greatest and down to the least: nothing else than the words ask for counts.
func TestOfEachNumberNearAllEdges(t *testing.T) {
	for i := range numbers(&api.Spec{}, &api.Job{}, &api.Ring{}) {
		for k := range i + 1 {
			for _, n := range near {
				for _, m := range near {
					s, j, h := spec(2, 4), optional(9), api.Ring{N: 5, B: 21}
					*numbers(&s, &j, &h)[i] = n
					*numbers(&s, &j, &h)[k] = m
					tells(t, n, s, j, h)
				}
			}
		}
	}
	for shift := range 64 {
		for _, n := range []int{0, 5, 59, 60, 61} {
			tells(t, 1, spec(2, 4), optional(9), api.Ring{N: n, B: 1 << shift})
			tells(t, 1, spec(2, 4), optional(9), api.Ring{N: n, B: math.MaxUint64 >> shift})
		}
	}
}

// P14.2: drawn descriptions, jobs and outcomes, which may be, some with a number near an edge.
func TestOfDrawn(t *testing.T) {
	s := state(2)
	told := 0
	for range 200000 {
		k := s.draw(1, 6)
		x := api.Spec{C: s.draw(1, 6), T: s.draw(6, 48), Max: 48, M: s.draw(1, k), K: k, E: s.draw(0, 8)}
		j := api.Job{On: s.draw(0, 4) > 0, J: s.draw(0, 99), Rel: s.draw(0, 1<<20), Mand: s.draw(0, 4) == 0, C: x.C, D: s.draw(1, 20)}
		j.Due = j.Rel + s.draw(1, 48)
		j.Ran = s.draw(0, min(j.C, j.D))
		n := s.draw(0, remembered)
		h := api.Ring{N: n, B: (uint64(s.draw(0, 1<<30))<<30 | uint64(s.draw(0, 1<<30))) & (1<<n - 1)}
		if s.draw(0, 3) == 0 {
			l := numbers(&x, &j, &h)
			*l[s.draw(0, len(l)-1)] = near[s.draw(0, len(near)-1)]
		}
		id := s.draw(-3, 70000)
		tells(t, id, x, j, h)
		if _, ok := Of(id, x, j, h); ok {
			told++
		}
	}
	if told < 50000 || told > 150000 {
		t.Errorf("%d", told)
	}
}

// R3: the list that is handed in stays as it was, and what is answered is the caller's own.
func TestListsStayAsTheyWere(t *testing.T) {
	junk := opt(-77, -77, -77)
	s := state(3)
	for range 3000 {
		l := make([]api.Opt, s.draw(0, 8))
		for i := range l {
			l[i] = s.drawOpt(2)
		}
		if s.draw(0, 2) == 0 {
			l = refSort(l)
		}
		// there is room behind the list, which is nobody's but the caller's
		roomy := append(make([]api.Opt, 0, 12), l...)
		behind := roomy[:12]
		sorted := Sort(roomy)
		First(roomy)
		for i := range sorted {
			sorted[i] = junk
		}
		_ = append(sorted, junk, junk, junk)
		if !slices.Equal(roomy, l) || slices.ContainsFunc(behind[len(l):], func(o api.Opt) bool { return o != api.Opt{} }) {
			t.Errorf("%v: %v", l, behind)
		}
		holds(t, roomy)
		// what is answered stays when what was handed in changes, and when it is asked again
		sorted = Sort(roomy)
		want := slices.Clone(sorted)
		again := Sort(roomy)
		for i := range behind {
			behind[i] = junk
		}
		Sort(behind)
		First(behind)
		if !slices.Equal(sorted, want) {
			t.Errorf("%v: %v", l, sorted)
		}
		for i := range again {
			again[i] = junk
		}
		if !slices.Equal(sorted, want) {
			t.Errorf("%v: %v, shared with another answer", l, sorted)
		}
	}
}

// R5: what is told hangs on what is asked alone, not on what was asked ahead of it.
func TestAskedAgain(t *testing.T) {
	s := state(4)
	for range 200 {
		l, other := make([]api.Opt, s.draw(2, 20)), make([]api.Opt, s.draw(0, 20))
		for i := range l {
			l[i] = s.drawOpt(3)
		}
		for i := range other {
			other[i] = s.drawOpt(3)
		}
		sorted, first, ahead := Sort(l), First(l), Less(l[0], l[1])
		h := api.Ring{N: 3, B: uint64(s.draw(0, 7))}
		o, ok := Of(3, spec(2, 3), optional(9), h)
		for range 20 {
			Sort(other)
			First(other)
			Less(l[1], l[0])
			Of(4, spec(1, 6), optional(8), api.Ring{})
			Of(4, spec(1, 6), api.Job{}, h)
			p, same := Of(3, spec(2, 3), optional(9), h)
			if !slices.Equal(Sort(l), sorted) || First(l) != first || Less(l[0], l[1]) != ahead || p != o || same != ok {
				t.Fatalf("%v", l)
			}
		}
	}
}

// P14.3: of any one, and another one, one is Less, or they are the same: just one of these; and what is ahead of one is ahead of all that this is ahead of.
func TestOneIsLessOrTheyAreTheSame(t *testing.T) {
	s := state(5)
	kinds := [3]int{}
	for range 300000 {
		a, b, c := s.drawOpt(2), s.drawOpt(2), s.drawOpt(2)
		if s.draw(0, 1) == 0 {
			*fields(&a)[s.draw(0, 2)] = near[s.draw(0, len(near)-1)]
			*fields(&b)[s.draw(0, 2)] = near[s.draw(0, len(near)-1)]
		}
		holding := 0
		for i, yes := range []bool{Less(a, b), Less(b, a), a == b} {
			if yes {
				holding++
				kinds[i]++
			}
		}
		if holding != 1 || Less(a, b) && Less(b, c) && !Less(a, c) {
			t.Fatalf("%v, %v, %v: %v %v", a, b, c, Less(a, b), Less(b, a))
		}
	}
	if slices.Min(kinds[:]) < 1000 {
		t.Errorf("%v", kinds)
	}
}

// P14.3: the first one is the first one when they are sorted; and so again and again without it, till none is left.
func TestFirstIsTheFirstOfSorted(t *testing.T) {
	s := state(6)
	for range 10000 {
		l := make([]api.Opt, s.draw(0, 20))
		for i := range l {
			l[i] = s.drawOpt(s.draw(1, 4))
			if s.draw(0, 3) == 0 {
				*fields(&l[i])[s.draw(0, 2)] = near[s.draw(0, len(near)-1)]
			}
		}
		for _, o := range Sort(l) {
			at := First(l)
			if at < 0 || l[at] != o || slices.Index(l, o) != at {
				t.Fatalf("First(%v): %d, not the place of %v", l, at, o)
			}
			l = slices.Delete(l, at, at+1)
		}
		if First(l) != -1 || len(l) > 0 {
			t.Fatalf("%v is left, %d", l, First(l))
		}
	}
}

// P14.3: those that are told of jobs are put in order as the words say: who is nearest to too few, who must have ended first, whose number is lowest.
func TestOfJobsThatAreSorted(t *testing.T) {
	s := state(7)
	for range 3000 {
		var l []api.Opt
		for id := range s.draw(1, 4) {
			k := s.draw(1, 6)
			if o, ok := Of(id, spec(s.draw(1, k), k), optional(s.draw(5, 9)), api.Ring{N: 6, B: uint64(s.draw(0, 63))}); ok {
				l = append(l, o)
			}
		}
		slices.Reverse(l)
		holds(t, l)
		first := l[First(l)]
		for _, o := range l {
			if o.Far < first.Far || o.Far == first.Far && (o.Due < first.Due || o.Due == first.Due && o.ID < first.ID) {
				t.Fatalf("%v: %v", l, first)
			}
		}
	}
}
