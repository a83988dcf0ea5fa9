package dover

import (
	"math"
	"math/big"
	"slices"
	"testing"

	"fusee/api"
)

// The limits are told by their numbers, so that a test fails if one of them is taken for another.
const (
	most    = 4
	last    = 549755813888
	clock   = 1099511627776
	longest = 40
	worth   = 1000
)

// ape is a job of five numbers.
func ape(id, due, c, v, ran int) api.Ape {
	return api.Ape{ID: id, Due: due, C: c, V: v, Ran: ran}
}

// list is jobs as they stand.
func list(l ...api.Ape) []api.Ape { return l }

// near are numbers at the edges of all fields, and far beyond them.
var near = []int{
	math.MinInt, math.MinInt + 1, math.MinInt + 40, -1 << 62, -clock - 1, -clock, -last - 1, -last, -1 << 32, -1001, -1000, -41, -40, -39, -2, -1, 0, 1, 2, 3, 4, 5, 9, 10, 11, 38, 39, 40, 41, 42, 255, 256, 257, 999, 1000, 1001,
	65535, 65536, 1 << 31, 1 << 32, 1 << 38, last - 1, last, last + 1, last + 40, clock - 1, clock, clock + 1, 1 << 62, math.MaxInt - 40, math.MaxInt - 1, math.MaxInt,
}

// fields are a job's numbers, each to be set by itself.
func fields(a *api.Ape) []*int {
	return []*int{&a.ID, &a.Due, &a.C, &a.V, &a.Ran}
}

// The references below say by the document's words what is so, without the layers below.

func refMay(l []api.Ape, now int) bool {
	if len(l) > most || now < 0 || now > last {
		return false
	}
	for i, a := range l {
		if a.ID < 0 || a.ID > last || a.Due < 1 || a.Due > clock || a.C < 1 || a.C > longest || a.V < 1 || a.V > worth || a.Ran < 0 || a.Ran >= a.C {
			return false
		}
		for _, b := range l[i+1:] {
			if b.ID == a.ID {
				return false
			}
		}
	}
	return true
}

// exact is a number of any length, of which so many are added, and so many taken away.
func exact(from int, add, less []int) *big.Int {
	n := big.NewInt(int64(from))
	for _, x := range add {
		n.Add(n, big.NewInt(int64(x)))
	}
	for _, x := range less {
		n.Sub(n, big.NewInt(int64(x)))
	}
	return n
}

// refLax is how long a job can wait still, and whether that is a number of 64 bits: of others the document says nothing.
func refLax(a api.Ape, now int) (int, bool) {
	n := exact(a.Due, []int{a.Ran}, []int{now, a.C})
	return int(n.Int64()), n.IsInt64()
}

// refSort is jobs so that each stands behind all that must have ended ahead of it: of one Due behind those of lower IDs.
func refSort(l []api.Ape) []api.Ape {
	var sorted []api.Ape
	for _, a := range l {
		at := len(sorted)
		for at > 0 && (sorted[at-1].Due > a.Due || sorted[at-1].Due == a.Due && sorted[at-1].ID > a.ID) {
			at--
		}
		sorted = slices.Insert(sorted, at, a)
	}
	return sorted
}

func refOrder(l []api.Ape) []int {
	var ids []int
	for _, a := range refSort(l) {
		ids = append(ids, a.ID)
	}
	return ids
}

// refFits tells whether all end till they must, and whether all that is reckoned with there is a number of 64 bits: of others the document says nothing.
func refFits(l []api.Ape, now int) (fits, plain bool) {
	end := exact(now, nil, nil)
	fits, plain = true, true
	for _, a := range refSort(l) {
		left := exact(a.C, nil, []int{a.Ran})
		end.Add(end, left)
		plain = plain && left.IsInt64() && end.IsInt64()
		fits = fits && end.Cmp(exact(a.Due, nil, nil)) <= 0
	}
	return fits, plain
}

// refOf is where the job of an ID stands: -1, if there is none.
func refOf(l []api.Ape, id int) int {
	return slices.IndexFunc(l, func(a api.Ape) bool { return a.ID == id })
}

func refPick(l []api.Ape, cur, now int) (int, []int) {
	if !refMay(l, now) {
		return -1, nil
	}
	var gone []int
	var left []api.Ape
	for _, a := range l {
		if a.Due-now < a.C-a.Ran {
			gone = append(gone, a.ID)
		} else {
			left = append(left, a)
		}
	}
	left = refSort(left)
	if len(left) == 0 {
		return -1, gone
	}
	if fits, _ := refFits(left, now); fits {
		return left[0].ID, gone
	}
	for _, a := range slices.Clone(left) {
		at := refOf(left, cur)
		switch {
		case a.ID == cur || a.Due-now != a.C-a.Ran:
		case at >= 0 && a.V <= 3*left[at].V: // one and the root of 4 are 3
			gone = append(gone, a.ID)
			left = slices.Delete(left, refOf(left, a.ID), refOf(left, a.ID)+1)
		default:
			cur = a.ID
		}
	}
	if refOf(left, cur) >= 0 {
		return cur, gone
	}
	return left[0].ID, gone
}

// picks fails if Pick tells anything else.
func picks(t *testing.T, l []api.Ape, cur, now, want int, gone ...int) {
	t.Helper()
	if id, went := Pick(l, cur, now); id != want || !slices.Equal(went, gone) {
		t.Errorf("Pick(%+v, %d, %d): %d %v, not %d %v", l, cur, now, id, went, want, gone)
	}
}

// holds fails if anything is told of jobs at a time otherwise than by the words, or if they do not stay as they were.
func holds(t *testing.T, l []api.Ape, now int, curs ...int) {
	t.Helper()
	was := slices.Clone(l)
	if May(l, now) != refMay(l, now) {
		t.Errorf("May(%+v, %d): %v", l, now, May(l, now))
	}
	if got := Order(l); !slices.Equal(got, refOrder(l)) {
		t.Errorf("Order(%+v): %v, not %v", l, got, refOrder(l))
	}
	got := Fits(l, now)
	if want, plain := refFits(l, now); plain && got != want {
		t.Errorf("Fits(%+v, %d): %v", l, now, got)
	}
	for _, a := range l {
		got := Lax(a, now)
		if want, plain := refLax(a, now); plain && got != want {
			t.Errorf("Lax(%+v, %d): %d, not %d", a, now, got, want)
		}
	}
	for _, cur := range curs {
		id, gone := refPick(l, cur, now)
		picks(t, l, cur, now, id, gone...)
	}
	if !slices.Equal(l, was) {
		t.Errorf("%+v at %d was changed: %+v", was, now, l)
	}
}

// orders hands on a list in each order in which it may stand.
func orders(l []api.Ape, f func(l []api.Ape)) {
	var turn func(n int)
	turn = func(n int) {
		if n == len(l) {
			f(slices.Clone(l))
			return
		}
		for i := n; i < len(l); i++ {
			l[n], l[i] = l[i], l[n]
			turn(n + 1)
			l[n], l[i] = l[i], l[n]
		}
	}
	turn(0)
}

// state is where drawing stands; each test that draws begins anew.
type state uint64

func (s *state) draw(low, high int) int {
	*s = *s*6364136223846793005 + 1442695040888963407
	return low + int(*s>>33)%(high-low+1)
}

// drawTime is a time that may be, more often one at an edge.
func (s *state) drawTime() int {
	return []int{0, 1, s.draw(2, 400), last - s.draw(0, 50), last}[s.draw(0, 4)]
}

// drawJob is a job that may be, which is as likely to be too late, to wait no longer, or to wait a little, as to wait long.
func (s *state) drawJob(id, now int) api.Ape {
	c := s.draw(1, []int{4, 12, 40}[s.draw(0, 2)])
	ran := []int{0, s.draw(0, c-1), c - 1}[s.draw(0, 2)]
	lax := []int{-s.draw(1, 5), 0, 0, s.draw(1, 3), s.draw(0, 60)}[s.draw(0, 4)]
	v := []int{s.draw(1, 5), s.draw(1, 45), s.draw(1, 1000), []int{1, 3, 4, 9, 10, 12, 13, 36, 40}[s.draw(0, 8)]}[s.draw(0, 3)]
	return ape(id, max(1, now+c-ran+lax), c, v, ran)
}

// drawn hands on so many lists that may be at a time, and who ran last, always the same ones.
func drawn(times int, f func(l []api.Ape, cur, now int)) {
	s := state(13)
	for range times {
		now := s.drawTime()
		var l []api.Ape
		ids := []int{0, 1, 2, 3, 4, 5, s.draw(6, 1<<20), last - 1, last}
		for range s.draw(0, most) {
			at := s.draw(0, len(ids)-1)
			l = append(l, s.drawJob(ids[at], now))
			ids = slices.Delete(ids, at, at+1)
		}
		cur := []int{-1, s.draw(0, 5), last}[s.draw(0, 2)]
		if len(l) > 0 && s.draw(0, 2) > 0 {
			cur = l[s.draw(0, len(l)-1)].ID
		}
		f(l, cur, now)
	}
}

// P13.1 and P13.2: the chapter's example: at 0, of 1 (till 4, 4 long) and 2 (till 4, 4 long, 9 times worth it): by cur 1: 2.
func TestExample(t *testing.T) {
	l := list(ape(1, 4, 4, 10, 0), ape(2, 4, 4, 90, 0))
	if !May(l, 0) || Fits(l, 0) || !slices.Equal(Order(l), []int{1, 2}) || Lax(l[0], 0) != 0 || Lax(l[1], 0) != 0 {
		t.Errorf("%v %v %v %d %d", May(l, 0), Fits(l, 0), Order(l), Lax(l[0], 0), Lax(l[1], 0))
	}
	picks(t, l, 1, 0, 2)
	picks(t, l, 2, 0, 2, 1)
	picks(t, l, -1, 0, 2)
	picks(t, l, 1, 1, -1, 1, 2)
}

// P13.1: what one job may be, and which may be together, at the edges that the chapter names, told one by one.
func TestMayAtTheEdges(t *testing.T) {
	a := ape(3, 50, 20, 7, 5)
	with := func(f func(a *api.Ape)) []api.Ape {
		b := a
		f(&b)
		return list(b)
	}
	for i, c := range []struct {
		l    []api.Ape
		now  int
		want bool
	}{
		// none, one, four, and five
		{nil, 0, true}, {[]api.Ape{}, 0, true}, {list(a), 0, true}, {list(a, ape(4, 50, 20, 7, 5)), 0, true},
		{list(a, ape(2, 50, 20, 7, 5), ape(1, 50, 20, 7, 5), ape(0, 50, 20, 7, 5)), 0, true}, {list(a, ape(2, 50, 20, 7, 5), ape(1, 50, 20, 7, 5), ape(0, 50, 20, 7, 5), ape(4, 50, 20, 7, 5)), 0, false},
		// two of one ID: the same ones, others, and at each place
		{list(a, a), 0, false}, {list(a, ape(3, 90, 2, 1, 0)), 0, false}, {list(ape(1, 9, 1, 1, 0), a, ape(3, 90, 2, 1, 0)), 0, false}, {list(a, ape(1, 9, 1, 1, 0), ape(3, 90, 2, 1, 0)), 0, false},
		{list(ape(1, 9, 1, 1, 0), ape(2, 9, 1, 1, 0), a, ape(3, 9, 1, 1, 0)), 0, false}, {list(a, ape(2, 9, 1, 1, 0), ape(1, 9, 1, 1, 0), ape(3, 9, 1, 1, 0)), 0, false}, {list(ape(0, 9, 1, 1, 0), ape(0, 9, 1, 1, 0)), 0, false},
		// those of another ID may be the same ones
		{list(ape(1, 9, 2, 1, 0), ape(2, 9, 2, 1, 0), ape(0, 9, 2, 1, 0)), 0, true},
		// the time
		{list(a), last, true}, {list(a), last + 1, false}, {list(a), -1, false}, {nil, last, true}, {nil, last + 1, false}, {nil, -1, false}, {nil, math.MaxInt, false}, {nil, math.MinInt, false}, {list(a), clock, false},
		// a job that must have ended long ago may be
		{list(a), 50, true}, {list(a), 51, true}, {list(a), 1 << 30, true},
		{with(func(a *api.Ape) { a.ID = 0 }), 0, true}, {with(func(a *api.Ape) { a.ID = -1 }), 0, false}, {with(func(a *api.Ape) { a.ID = last }), 0, true}, {with(func(a *api.Ape) { a.ID = last + 1 }), 0, false},
		{with(func(a *api.Ape) { a.Due = 1 }), 0, true}, {with(func(a *api.Ape) { a.Due = 0 }), 0, false}, {with(func(a *api.Ape) { a.Due = clock }), 0, true}, {with(func(a *api.Ape) { a.Due = clock + 1 }), 0, false},
		{list(ape(3, 50, 1, 7, 0)), 0, true}, {list(ape(3, 50, 0, 7, 0)), 0, false}, {list(ape(3, 50, 0, 7, -1)), 0, false}, {with(func(a *api.Ape) { a.C = 40 }), 0, true}, {with(func(a *api.Ape) { a.C = 41 }), 0, false},
		{with(func(a *api.Ape) { a.V = 1 }), 0, true}, {with(func(a *api.Ape) { a.V = 0 }), 0, false}, {with(func(a *api.Ape) { a.V = 1000 }), 0, true}, {with(func(a *api.Ape) { a.V = 1001 }), 0, false},
		{with(func(a *api.Ape) { a.Ran = 0 }), 0, true}, {with(func(a *api.Ape) { a.Ran = -1 }), 0, false}, {with(func(a *api.Ape) { a.Ran = 19 }), 0, true}, {with(func(a *api.Ape) { a.Ran = 20 }), 0, false}, {with(func(a *api.Ape) { a.Ran = 21 }), 0, false},
		{list(ape(3, 50, 40, 7, 39)), 0, true}, {list(ape(3, 50, 40, 7, 40)), 0, false}, {list(ape(3, 50, 1, 7, 1)), 0, false},
		{list(ape(last, clock, 40, 1000, 39)), last, true}, {list(ape(0, 1, 1, 1, 0)), 0, true},
		// far beyond, and none at all
		{list(api.Ape{}), 0, false}, {with(func(a *api.Ape) { a.ID = math.MaxInt }), 0, false}, {with(func(a *api.Ape) { a.ID = math.MinInt }), 0, false}, {with(func(a *api.Ape) { a.Due = math.MaxInt }), 0, false}, {with(func(a *api.Ape) { a.Due = math.MinInt }), 0, false},
		{with(func(a *api.Ape) { a.C = math.MaxInt }), 0, false}, {with(func(a *api.Ape) { a.C = math.MinInt }), 0, false}, {with(func(a *api.Ape) { a.V = math.MaxInt }), 0, false}, {with(func(a *api.Ape) { a.V = math.MinInt }), 0, false},
		{with(func(a *api.Ape) { a.Ran = math.MaxInt }), 0, false}, {with(func(a *api.Ape) { a.Ran = math.MinInt }), 0, false}, {list(ape(3, 50, math.MinInt, 7, math.MinInt)), 0, false}, {list(ape(3, 50, math.MinInt, 7, 0)), 0, false},
		// one that may not be, at each place
		{list(api.Ape{}, a), 0, false}, {list(a, api.Ape{}), 0, false}, {list(a, ape(1, 9, 1, 1, 0), api.Ape{ID: 2}, ape(4, 9, 1, 1, 0)), 0, false}, {list(a, ape(1, 9, 1, 1, 0), ape(2, 9, 1, 1, 0), ape(4, 9, 1, 1, 1)), 0, false},
	} {
		if May(c.l, c.now) != c.want {
			t.Errorf("%d: May(%+v, %d): %v", i, c.l, c.now, !c.want)
		}
		holds(t, c.l, c.now, -1, 3)
	}
}

// P13.1 and P13.2: one field, and two of them, near all edges and far beyond them, of one job and of two; and each such time, and cur.
func TestEachFieldNearAllEdges(t *testing.T) {
	for _, base := range []api.Ape{ape(3, 50, 20, 7, 5), ape(0, 1, 1, 1, 0), ape(last, clock, 40, 1000, 39), ape(2, last+40, 40, 9, 0)} {
		for _, now := range near {
			holds(t, list(base), now, near...)
		}
		for i := range 5 {
			for _, n := range near {
				a := base
				*fields(&a)[i] = n
				for _, now := range []int{0, 35, 36, last, last + 1, -1, math.MaxInt, math.MinInt} {
					holds(t, list(a), now, a.ID, -1)
					holds(t, list(ape(1, 30, 20, 20, 0), a), now, 1, a.ID, -1)
					holds(t, list(a, base), now, base.ID)
				}
				for k := range i {
					for _, m := range near {
						b := a
						*fields(&b)[k] = m
						holds(t, list(b), 0, b.ID)
						holds(t, list(base, b), 35, base.ID)
					}
				}
			}
		}
	}
}

// P13.1: Lax, told one by one, also of jobs that may not be.
func TestLaxAsWritten(t *testing.T) {
	for i, c := range []struct {
		a    api.Ape
		now  int
		want int
	}{
		{ape(1, 10, 4, 1, 0), 0, 6}, {ape(1, 10, 4, 1, 0), 5, 1}, {ape(1, 10, 4, 1, 0), 6, 0}, {ape(1, 10, 4, 1, 0), 7, -1}, {ape(1, 10, 4, 1, 3), 8, 1}, {ape(1, 10, 4, 1, 3), 9, 0}, {ape(1, 10, 4, 1, 3), 10, -1}, {ape(1, 10, 4, 1, 3), 99, -90},
		{ape(last, clock, 40, 1000, 0), 0, clock - 40}, {ape(0, 1, 1, 1, 0), last, -last}, {ape(9, last, 1, 1, 0), last - 1, 0},
		// the number, and what it is worth, is asked of nobody
		{ape(-7, 10, 4, -9, 0), 0, 6}, {ape(math.MaxInt, 10, 4, math.MinInt, 0), 0, 6},
		// jobs that may not be
		{api.Ape{}, 0, 0}, {api.Ape{}, 5, -5}, {ape(1, 0, 4, 1, 0), 0, -4}, {ape(1, -3, 4, 1, 0), -9, 2}, {ape(1, 10, 4, 1, 4), 0, 10}, {ape(1, 10, 4, 1, 9), 0, 15}, {ape(1, 10, -4, 1, 0), 0, 14}, {ape(1, 10, 4, 1, -3), 0, 3}, {ape(1, 10, 41, 1, 0), 0, -31},
		{ape(1, math.MaxInt, 4, 1, 0), 0, math.MaxInt - 4}, {ape(1, math.MaxInt, 0, 1, 0), 0, math.MaxInt}, {ape(1, math.MinInt, 0, 1, 4), 0, math.MinInt + 4}, {ape(1, math.MinInt, 0, 1, 0), 0, math.MinInt}, {ape(1, 0, math.MaxInt, 1, 0), 0, -math.MaxInt}, {ape(1, 0, 0, 1, math.MaxInt), 0, math.MaxInt},
		{ape(1, 0, 0, 1, 0), math.MaxInt, -math.MaxInt}, {ape(1, math.MaxInt, 0, 1, 0), math.MaxInt, 0}, {ape(1, math.MinInt, 0, 1, 0), math.MinInt, 0}, {ape(1, math.MinInt, 5, 1, 0), math.MinInt, -5}, {ape(1, 9, math.MaxInt, 1, math.MaxInt), 4, 5}, {ape(1, 9, math.MinInt, 1, math.MinInt), 4, 5},
	} {
		if got := Lax(c.a, c.now); got != c.want {
			t.Errorf("%d: Lax(%+v, %d): %d, not %d", i, c.a, c.now, got, c.want)
		}
	}
}

// P13.1: Order, told one by one: by Due, of one Due by ID, and by nothing else; also of jobs that may not be.
func TestOrderAsWritten(t *testing.T) {
	due := func(pairs ...int) []api.Ape {
		var l []api.Ape
		for i := 0; i < len(pairs); i += 2 {
			l = append(l, ape(pairs[i], pairs[i+1], 1+(i*7)%40, 1+(1000-i)%90, 0))
		}
		return l
	}
	for i, c := range []struct {
		l    []api.Ape
		want []int
	}{
		{nil, nil}, {[]api.Ape{}, nil}, {due(7, 9), []int{7}}, {due(1, 9, 2, 8), []int{2, 1}}, {due(1, 8, 2, 9), []int{1, 2}}, {due(2, 8, 1, 9), []int{2, 1}},
		// several of one Due
		{due(2, 9, 1, 9), []int{1, 2}}, {due(3, 9, 1, 9, 2, 9, 0, 9), []int{0, 1, 2, 3}}, {due(3, 9, 1, 8, 2, 9, 0, 9), []int{1, 0, 2, 3}}, {due(0, 9, 3, 8, 2, 8, 1, 9), []int{2, 3, 0, 1}},
		{due(last, clock, 0, clock, 1, 1, 2, 1), []int{1, 2, 0, last}},
		// jobs that may not be: five and more, of one ID, below 0, and far beyond
		{due(5, 9, 4, 9, 3, 9, 2, 9, 1, 9), []int{1, 2, 3, 4, 5}}, {due(1, 5, 2, 4, 3, 3, 4, 2, 5, 1, 6, 0), []int{6, 5, 4, 3, 2, 1}}, {due(1, 9, 1, 8), []int{1, 1}}, {due(1, 9, 2, 8, 1, 7), []int{1, 2, 1}}, {due(1, 9, 1, 9, 0, 9, 2, 9), []int{0, 1, 1, 2}},
		{due(-1, 9, 1, 9, 0, 9), []int{-1, 0, 1}}, {due(1, 0, 2, -1, 3, 1), []int{2, 1, 3}}, {due(math.MaxInt, 9, math.MinInt, 9), []int{math.MinInt, math.MaxInt}}, {due(math.MinInt, 9, math.MaxInt, 9), []int{math.MinInt, math.MaxInt}},
		{due(1, math.MaxInt, 2, math.MinInt), []int{2, 1}}, {due(2, math.MinInt, 1, math.MaxInt), []int{2, 1}}, {due(2, math.MinInt, 1, math.MinInt), []int{1, 2}}, {due(2, -1, 1, math.MaxInt), []int{2, 1}}, {make([]api.Ape, 3), []int{0, 0, 0}},
	} {
		if got := Order(c.l); !slices.Equal(got, c.want) {
			t.Errorf("%d: Order(%+v): %v, not %v", i, c.l, got, c.want)
		}
		holds(t, c.l, 5, 1, 2, -1)
	}
}

// P13.1: Fits, told one by one: just, and no more by one; at each place; by the order in which they run, not in which they stand; also of jobs that may not be.
func TestFitsAsWritten(t *testing.T) {
	for i, c := range []struct {
		l    []api.Ape
		now  int
		want bool
	}{
		{nil, 0, true}, {[]api.Ape{}, 0, true}, {nil, last + 1, true}, {nil, -1, true}, {nil, math.MaxInt, true}, {nil, math.MinInt, true},
		{list(ape(1, 4, 4, 1, 0)), 0, true}, {list(ape(1, 4, 4, 1, 0)), 1, false}, {list(ape(1, 4, 5, 1, 0)), 0, false}, {list(ape(1, 4, 5, 1, 1)), 0, true}, {list(ape(1, 4, 40, 1, 39)), 3, true}, {list(ape(1, 4, 40, 1, 39)), 4, false},
		{list(ape(1, last+40, 40, 1, 0)), last, true}, {list(ape(1, last+39, 40, 1, 0)), last, false},
		// each is just in time, or one is one late: the first, the second, the third, the fourth
		{list(ape(1, 4, 4, 1, 0), ape(2, 9, 5, 1, 0), ape(3, 10, 1, 1, 0), ape(4, 12, 2, 1, 0)), 0, true}, {list(ape(1, 3, 4, 1, 0), ape(2, 9, 5, 1, 0), ape(3, 10, 1, 1, 0), ape(4, 12, 2, 1, 0)), 0, false}, {list(ape(1, 4, 4, 1, 0), ape(2, 8, 5, 1, 0), ape(3, 10, 1, 1, 0), ape(4, 12, 2, 1, 0)), 0, false},
		{list(ape(1, 4, 4, 1, 0), ape(2, 9, 5, 1, 0), ape(3, 9, 1, 1, 0), ape(4, 12, 2, 1, 0)), 0, false}, {list(ape(1, 4, 4, 1, 0), ape(2, 9, 5, 1, 0), ape(3, 10, 1, 1, 0), ape(4, 11, 2, 1, 0)), 0, false}, {list(ape(1, 4, 4, 1, 0), ape(2, 9, 5, 1, 0), ape(3, 10, 1, 1, 0), ape(4, 12, 2, 1, 0)), 1, false},
		{list(ape(1, 4, 4, 1, 1), ape(2, 9, 5, 1, 0), ape(3, 10, 1, 1, 0), ape(4, 12, 2, 1, 0)), 1, true}, {list(ape(1, 4, 4, 1, 0), ape(2, 9, 5, 1, 0), ape(3, 10, 1, 1, 0), ape(4, 12, 2, 1, 1)), 1, false},
		// those of one Due
		{list(ape(1, 9, 4, 1, 0), ape(2, 9, 5, 1, 0)), 0, true}, {list(ape(1, 9, 5, 1, 0), ape(2, 9, 5, 1, 0)), 0, false}, {list(ape(4, 9, 2, 1, 0), ape(3, 9, 3, 1, 0), ape(2, 9, 3, 1, 0), ape(1, 9, 1, 1, 0)), 0, true}, {list(ape(4, 9, 2, 1, 0), ape(3, 9, 3, 1, 0), ape(2, 9, 3, 1, 0), ape(1, 9, 2, 1, 0)), 0, false},
		// how they stand is nothing to it
		{list(ape(1, 9, 5, 1, 0), ape(2, 4, 4, 1, 0)), 0, true}, {list(ape(2, 4, 4, 1, 0), ape(1, 9, 5, 1, 0)), 0, true}, {list(ape(9, 4, 4, 1, 0), ape(1, 9, 6, 1, 0)), 0, false},
		// each fits alone, and both do not; what it is worth is nothing to it
		{list(ape(1, 9, 6, 1, 0), ape(2, 9, 6, 1, 0)), 0, false}, {list(ape(1, 9, 6, 1000, 0), ape(2, 9, 6, 1, 0)), 0, false}, {list(ape(1, 9, 3, -5, 0)), 0, true},
		// more than may be; of one ID, also of one Due, so that each counts, by its own Due
		{list(ape(1, 9, 1, 1, 0), ape(2, 9, 1, 1, 0), ape(3, 9, 1, 1, 0), ape(4, 9, 1, 1, 0), ape(5, 5, 5, 1, 0)), 0, true}, {list(ape(1, 9, 1, 1, 0), ape(2, 9, 1, 1, 0), ape(3, 9, 1, 1, 0), ape(4, 9, 2, 1, 0), ape(5, 5, 5, 1, 0)), 0, false},
		{list(ape(1, 4, 4, 1, 0), ape(1, 4, 4, 1, 0)), 0, false}, {list(ape(1, 8, 4, 1, 0), ape(1, 8, 4, 1, 0)), 0, true}, {list(ape(1, 8, 4, 1, 0), ape(1, 4, 4, 1, 0)), 0, true}, {list(ape(1, 4, 4, 1, 0), ape(1, 8, 4, 1, 0)), 0, true}, {list(ape(1, 4, 4, 1, 0), ape(1, 7, 4, 1, 0)), 0, false}, {list(ape(1, 7, 4, 1, 0), ape(1, 4, 4, 1, 0)), 0, false},
		{list(ape(1, 8, 1, 1, 0), ape(1, 8, 7, 1, 0), ape(1, 8, 1, 1, 0)), 0, false}, {list(ape(1, 9, 1, 1, 0), ape(1, 9, 7, 1, 0), ape(1, 9, 1, 1, 0)), 0, true}, {list(ape(1, 9, 3, 1, 0), ape(2, 6, 3, 1, 0), ape(1, 3, 3, 1, 0)), 0, true}, {list(ape(1, 9, 3, 1, 0), ape(2, 5, 3, 1, 0), ape(1, 3, 3, 1, 0)), 0, false},
		// of what is left nothing, or less: one that ran too long leaves the next one more
		{list(api.Ape{}), 0, true}, {list(api.Ape{}), 1, false}, {list(api.Ape{}), -1, true}, {list(ape(1, 4, 4, 1, 4)), 4, true}, {list(ape(1, 4, 4, 1, 4)), 5, false}, {list(ape(1, 4, 4, 1, 6)), 6, true}, {list(ape(1, 4, 4, 1, 6)), 7, false},
		{list(ape(1, 4, 0, 1, 2), ape(2, 5, 7, 1, 0)), 0, true}, {list(ape(1, 4, 0, 1, 2), ape(2, 5, 8, 1, 0)), 0, false}, {list(ape(2, 4, 0, 1, 2), ape(1, 4, 6, 1, 0)), 0, false}, {list(ape(1, 4, 0, 1, 2), ape(2, 4, 6, 1, 0)), 0, true}, {list(ape(1, 4, -3, 1, 0), ape(2, 5, 8, 1, 0)), 0, true}, {list(ape(1, 4, 4, 1, -1)), 0, false},
		// below 0, and far beyond
		{list(ape(1, -4, 4, 1, 0)), -8, true}, {list(ape(1, -4, 4, 1, 0)), -7, false}, {list(ape(1, 0, 1, 1, 0)), 0, false}, {list(ape(-1, 4, 4, 1, 0), ape(-2, 4, 1, 1, 0)), 0, false}, {list(ape(1, math.MaxInt, 4, 1, 0)), 0, true}, {list(ape(1, math.MaxInt, 4, 1, 0)), math.MaxInt - 4, true}, {list(ape(1, math.MinInt, 4, 1, 0)), 0, false}, {list(ape(1, math.MinInt, 0, 1, 0)), 0, false},
		{list(ape(1, math.MinInt, 4, 1, 0)), math.MinInt, false}, {list(ape(1, math.MinInt, 4, 1, 4)), math.MinInt, true}, {list(ape(1, math.MaxInt, math.MaxInt, 1, 0)), 0, true}, {list(ape(1, math.MaxInt-1, math.MaxInt, 1, 0)), 0, false}, {list(ape(1, math.MinInt, math.MinInt, 1, 0)), 0, true}, {list(ape(1, math.MinInt, math.MinInt, 1, 0)), 1, false},
		{list(ape(1, 0, 4, 1, 0)), math.MinInt, true}, {list(ape(1, math.MinInt, 0, 1, 0)), math.MaxInt, false}, {list(ape(1, math.MaxInt, 0, 1, 0)), math.MaxInt, true}, {list(ape(1, math.MaxInt-1, 0, 1, 0)), math.MaxInt, false}, {list(ape(1, 4, math.MaxInt, 1, math.MaxInt-4)), 0, true}, {list(ape(1, 4, math.MaxInt, 1, math.MaxInt-5)), 0, false},
	} {
		if got := Fits(c.l, c.now); got != c.want {
			t.Errorf("%d: Fits(%+v, %d): %v", i, c.l, c.now, got)
		}
		holds(t, c.l, c.now, 1, 2, -1)
	}
}

// P13.2: all that can end at once, and all that go, told in full.
func TestPickWhereAllFit(t *testing.T) {
	a, b, c := ape(1, 9, 4, 10, 0), ape(2, 5, 2, 1, 0), ape(3, 9, 3, 900, 0)
	// none, whoever ran last
	for _, cur := range near {
		picks(t, nil, cur, 0, -1)
		picks(t, []api.Ape{}, cur, last, -1)
		picks(t, list(a), cur, 0, 1)
		picks(t, list(a, b, c), cur, 0, 2)
		picks(t, list(a, c), cur, 2, 1)
		picks(t, list(c, a), cur, 2, 1)
		// all go: as they stand
		picks(t, list(c, a, b), cur, 7, -1, 3, 1, 2)
		picks(t, list(b, a, c), cur, last, -1, 2, 1, 3)
		// those that go first leave the others room
		picks(t, list(a, ape(2, 3, 2, 1, 0), c), cur, 2, 1, 2)
		picks(t, list(a, ape(7, 3, 4, 9, 0), c, ape(6, 4, 5, 9, 0)), cur, 0, 1, 7, 6)
		picks(t, list(ape(6, 4, 5, 9, 0), c, ape(7, 3, 4, 1000, 0), a), cur, 0, 1, 6, 7)
	}
	// Lax of 0, and of one beyond on each side
	picks(t, list(a), -1, 4, 1)
	picks(t, list(a), -1, 5, 1)
	picks(t, list(a), -1, 6, -1, 1)
	picks(t, list(ape(1, 9, 4, 10, 3)), 1, 8, 1)
	picks(t, list(ape(1, 9, 4, 10, 3)), 1, 9, -1, 1)
	// just, and by one no more: then it is who ran last
	picks(t, list(a, ape(2, 9, 5, 1, 0)), 2, 0, 1)
	picks(t, list(a, ape(2, 9, 6, 1, 0)), 2, 0, 2)
	picks(t, list(a, ape(2, 9, 5, 1, 0)), 2, 1, 2)
	picks(t, list(a, ape(2, 9, 5, 1, 1)), 2, 1, 1)
}

// P13.2: those that do not all fit, told in full: who ran last goes on, yields, goes, or was none of them.
func TestPickWhereNotAllFit(t *testing.T) {
	// till 20 both, 12 left, so that none must run at once
	far := list(ape(1, 20, 12, 5, 0), ape(2, 20, 12, 1000, 0))
	picks(t, far, 1, 0, 1)
	picks(t, far, 2, 0, 2)
	picks(t, far, 0, 0, 1)
	picks(t, far, -1, 0, 1)
	picks(t, far, math.MinInt, 7, 1)
	picks(t, far, math.MaxInt, 7, 1)
	picks(t, far, 2, 7, 2)
	// at 8 both must: each of them is worth it, or not
	picks(t, far, 1, 8, 2)
	picks(t, far, 2, 8, 2, 1)
	picks(t, far, -1, 8, 2)
	picks(t, far, 9, 8, 2)
	picks(t, far, 1, 9, -1, 1, 2)
	for i, c := range []struct {
		v, w int
		beat bool
	}{
		{1, 3, false}, {1, 4, true}, {10, 30, false}, {10, 31, true}, {10, 29, false}, {333, 999, false}, {333, 1000, true}, {334, 1000, false}, {332, 997, true}, {1000, 1000, false}, {1000, 1, false}, {1, 1, false}, {1, 2, false}, {2, 6, false}, {2, 7, true},
	} {
		// one that can wait, and ran last, and one that can wait no longer
		l := list(ape(5, 20, 12, c.v, 2), ape(4, 24, 20, c.w, 4))
		holds(t, l, 8, 5, 4, -1)
		if c.beat {
			picks(t, l, 5, 8, 4)
		} else {
			picks(t, l, 5, 8, 5, 4)
		}
		// who waits no longer itself is not held against itself
		picks(t, l, 4, 8, 4)
		if i == 0 {
			picks(t, list(ape(4, 12, 4, 1, 0), ape(5, 13, 5, 1, 0)), 4, 8, 4, 5)
		}
	}
	// one that beats who beat cur; one that does so, but not cur; one that beats cur alone; and that come to be asked in this order alone
	picks(t, list(ape(1, 30, 9, 1, 0), ape(2, 12, 4, 4, 0), ape(3, 13, 5, 13, 0)), 1, 8, 3)
	picks(t, list(ape(1, 30, 9, 1, 0), ape(2, 12, 4, 4, 0), ape(3, 13, 5, 12, 0)), 1, 8, 2, 3)
	picks(t, list(ape(1, 30, 9, 1, 0), ape(2, 12, 4, 13, 0), ape(3, 13, 5, 4, 0)), 1, 8, 2, 3)
	picks(t, list(ape(1, 30, 9, 1, 0), ape(2, 12, 4, 3, 0), ape(3, 13, 5, 4, 0)), 1, 8, 3, 2)
	picks(t, list(ape(1, 30, 9, 1, 0), ape(2, 12, 4, 3, 0), ape(3, 13, 5, 3, 0)), 1, 8, 1, 2, 3)
	picks(t, list(ape(3, 30, 9, 1, 0), ape(2, 12, 4, 3, 0), ape(1, 12, 4, 4, 0)), 3, 8, 1, 2)
	// who was beaten is asked as any other, if it must run, too, and comes later; it stays, if it can wait, or was asked ahead
	picks(t, list(ape(1, 12, 4, 90, 0), ape(2, 13, 5, 10, 0)), 2, 8, 1, 2)
	picks(t, list(ape(1, 12, 4, 10, 0), ape(2, 13, 5, 90, 0)), 1, 8, 2)
	picks(t, list(ape(1, 12, 4, 90, 0), ape(2, 14, 5, 10, 0)), 2, 8, 1)
	picks(t, list(ape(1, 12, 4, 90, 0), ape(2, 13, 5, 10, 0), ape(3, 14, 6, 270, 0)), 2, 8, 1, 2, 3)
	picks(t, list(ape(1, 12, 4, 90, 0), ape(2, 13, 5, 10, 0), ape(3, 14, 6, 271, 0)), 2, 8, 3, 2)
	// cur is gone itself, or none of them: the first one that must is cur, then the others are held against it
	picks(t, list(ape(1, 11, 4, 900, 0), ape(2, 12, 4, 10, 0), ape(3, 13, 5, 30, 0)), 1, 8, 2, 1, 3)
	picks(t, list(ape(1, 11, 4, 900, 0), ape(2, 12, 4, 10, 0), ape(3, 13, 5, 31, 0)), 1, 8, 3, 1)
	picks(t, list(ape(2, 12, 4, 10, 0), ape(3, 13, 5, 30, 0)), 7, 8, 2, 3)
	picks(t, list(ape(2, 12, 4, 10, 0), ape(3, 13, 5, 30, 0)), -1, 8, 2, 3)
	picks(t, list(ape(2, 14, 4, 10, 0), ape(3, 13, 5, 30, 0)), -1, 8, 3)
	picks(t, list(ape(1, 11, 4, 900, 0), ape(2, 20, 10, 10, 0), ape(3, 20, 11, 30, 0)), 1, 8, 2, 1)
	picks(t, list(ape(2, 11, 4, 900, 0), ape(9, 20, 10, 10, 0), ape(3, 20, 11, 30, 0)), 2, 8, 3, 2)
	// 0 is a number like others, and so is nobody's
	picks(t, list(ape(0, 12, 4, 10, 0), ape(3, 13, 5, 31, 0)), 0, 8, 3)
	picks(t, list(ape(0, 12, 4, 10, 0), ape(3, 13, 5, 30, 0)), 0, 8, 0, 3)
	picks(t, list(ape(0, 20, 11, 10, 0), ape(3, 20, 11, 30, 0)), 3, 8, 3)
	picks(t, list(ape(2, 20, 11, 10, 0), ape(3, 20, 11, 30, 0)), 0, 8, 2)
}

// P13.2: several that go, some at first, as they stand, and some later, in their order; to the last but one.
func TestWhoIsGoneInWhichOrder(t *testing.T) {
	a, b, c, d := ape(1, 9, 2, 9, 0), ape(2, 10, 3, 9, 0), ape(3, 11, 4, 9, 0), ape(4, 12, 4, 9, 0)
	picks(t, list(a, b, c, d), 4, 7, 4, 1, 2, 3)
	picks(t, list(c, d, a, b), 4, 7, 4, 1, 2, 3)
	picks(t, list(d, c, b, a), 3, 7, 3, 1, 2)
	picks(t, list(d, c, b, a), -1, 7, 1, 2, 3)
	picks(t, list(d, c, b, a), 4, 8, 4, 3, 2, 1)
	picks(t, list(d, c, b, a), -1, 8, 4, 3, 2, 1)
	picks(t, list(d, c, b, a), -1, 9, -1, 4, 3, 2, 1)
	picks(t, list(b, a, d, c), 1, 9, -1, 2, 1, 4, 3)
	// two at first, and one later, which stands ahead of them, is due ahead of them, and of a lower number
	e, f, g, h := ape(0, 11, 4, 9, 0), ape(8, 14, 9, 1000, 0), ape(7, 13, 9, 1000, 0), ape(3, 40, 30, 9, 0)
	picks(t, list(e, f, g, h), 3, 7, 3, 8, 7, 0)
	picks(t, list(h, g, e, f), 3, 7, 3, 7, 8, 0)
	picks(t, list(h, g, e, f), 7, 7, 0, 7, 8)
	// one at first, and two later, of one Due by their numbers
	i, j := ape(6, 11, 4, 9, 0), ape(5, 11, 4, 9, 0)
	picks(t, list(i, f, h, j), 3, 7, 3, 8, 5, 6)
	picks(t, list(i, f, h, j), 6, 7, 6, 8, 5)
	picks(t, list(i, f, h, j), 8, 7, 5, 8, 6)
	// four of one Due, of which each is worth more than that behind it, and the other way round
	up := list(ape(1, 11, 4, 1, 0), ape(2, 11, 4, 4, 0), ape(3, 11, 4, 13, 0), ape(4, 11, 4, 40, 0))
	down := list(ape(1, 11, 4, 40, 0), ape(2, 11, 4, 13, 0), ape(3, 11, 4, 4, 0), ape(4, 11, 4, 1, 0))
	orders(up, func(l []api.Ape) {
		picks(t, l, -1, 7, 4)
		picks(t, l, 1, 7, 4)
		picks(t, l, 2, 7, 4, 1)
		picks(t, l, 3, 7, 4, 1, 2)
		picks(t, l, 4, 7, 4, 1, 2, 3)
	})
	orders(down, func(l []api.Ape) {
		picks(t, l, -1, 7, 1, 2, 3, 4)
		picks(t, l, 1, 7, 1, 2, 3, 4)
		picks(t, l, 2, 7, 1, 2, 3, 4)
		picks(t, l, 4, 7, 1, 2, 3, 4)
	})
}

// P13.2: -1, and nothing, of jobs that may not be, whoever ran last, and whatever would be gone of them.
func TestPickOfWhatMayNotBe(t *testing.T) {
	ok := ape(1, 9, 4, 10, 0)
	late := ape(2, 1, 4, 10, 0)
	for i, l := range [][]api.Ape{
		make([]api.Ape, 1), list(ok, ok), list(ok, late, api.Ape{}), list(late, late), list(late, ape(-1, 9, 4, 10, 0)), list(ape(last+1, 9, 4, 10, 0)), list(late, ape(3, 0, 4, 10, 0)), list(ape(3, clock+1, 4, 10, 0)), list(late, ape(3, 9, 0, 10, 0)), list(ape(3, 90, 41, 10, 0)),
		list(ape(3, 9, 4, 0, 0), late), list(ape(3, 9, 4, 1001, 0)), list(ape(3, 9, 4, 10, -1)), list(ape(3, 9, 4, 10, 4)), list(ok, late, ape(3, 9, 4, 10, 0), ape(4, 9, 4, 10, 0), ape(5, 9, 4, 10, 0)),
	} {
		for _, cur := range near {
			if id, gone := Pick(l, cur, 3); id != -1 || len(gone) != 0 {
				t.Errorf("%d: %d: %d %v", i, cur, id, gone)
			}
		}
	}
	for _, now := range near {
		if now >= 0 && now <= last {
			continue
		}
		for _, l := range [][]api.Ape{nil, list(ok), list(late), list(late, ok)} {
			if id, gone := Pick(l, 1, now); id != -1 || len(gone) != 0 {
				t.Errorf("%+v at %d: %d %v", l, now, id, gone)
			}
		}
	}
}

// P13.1 and P13.2: all lists of up to 3 of some jobs, in all orders, at the times around which they must run, by each cur.
func TestAllShortLists(t *testing.T) {
	jobs := []api.Ape{
		ape(1, 4, 2, 1, 0), ape(1, 6, 3, 9, 1), ape(2, 4, 2, 3, 0), ape(2, 5, 3, 4, 0), ape(2, 6, 6, 13, 4), ape(3, 4, 3, 13, 1), ape(3, 9, 4, 27, 0), ape(3, 6, 2, 12, 0), ape(4, 4, 2, 40, 0), ape(4, 7, 5, 1, 2), ape(4, 5, 4, 4, 1), ape(5, 4, 2, 100, 0),
	}
	n := 0
	all := func(l ...api.Ape) {
		for now := range 7 {
			n++
			holds(t, l, now, -1, 0, 1, 2, 3, 4, 5)
		}
	}
	all()
	for _, a := range jobs {
		all(a)
		for _, b := range jobs {
			all(a, b)
			for _, c := range jobs {
				all(a, b, c)
			}
		}
	}
	if n != 7*(1+12+144+1728) {
		t.Errorf("%d", n)
	}
}

// kind is how a list comes to what is picked: nobody is left; they fit; the others by who runs at last, and by whether somebody went later.
func kind(l []api.Ape, cur, now int) int {
	var left []api.Ape
	for _, a := range l {
		if n, _ := refLax(a, now); n >= 0 {
			left = append(left, a)
		}
	}
	id, gone := refPick(l, cur, now)
	fits, _ := refFits(left, now)
	later := len(gone) > len(l)-len(left)
	switch {
	case len(left) == 0:
		return 0
	case fits && len(left) < len(l):
		return 1
	case fits:
		return 2
	case id == cur && !later:
		return 3
	case id == cur:
		return 4
	case refOf(left, cur) >= 0 && !later:
		return 5
	case refOf(left, cur) >= 0:
		return 6
	case !later:
		return 7
	}
	return 8
}

// P13.1 and P13.2: drawn lists that may be, held against the words, of each kind some; as they stand, and the other way round.
func TestByItsMeaning(t *testing.T) {
	kinds := [9]int{}
	drawn(60000, func(l []api.Ape, cur, now int) {
		if !May(l, now) {
			t.Fatalf("May(%+v, %d): no", l, now)
		}
		holds(t, l, now, cur, -1)
		kinds[kind(l, cur, now)]++
		slices.Reverse(l)
		holds(t, l, now, cur)
		holds(t, l, now+1, cur)
	})
	if slices.Min(kinds[:]) < 500 {
		t.Errorf("%v", kinds)
	}
}

// P13.1 and P13.2: drawn lists with some fields near all edges or far beyond them, with several of one ID, and longer than may be.
func TestWrongListsByTheirMeaning(t *testing.T) {
	s := state(3)
	drawn(30000, func(l []api.Ape, cur, now int) {
		for range s.draw(0, 3) {
			l = append(l, s.drawJob(s.draw(0, 5), now))
		}
		holds(t, l, now, cur)
		if len(l) == 0 {
			return
		}
		a := &l[s.draw(0, len(l)-1)]
		*fields(a)[s.draw(0, 4)] = near[s.draw(0, len(near)-1)]
		holds(t, l, now, cur)
		*fields(a)[s.draw(0, 4)] += s.draw(-1, 1)
		holds(t, l, now, near[s.draw(0, len(near)-1)])
		l = append(l, *a)
		holds(t, l, near[s.draw(0, len(near)-1)], cur)
	})
}

// P1: lists far longer than may be are ordered and held against their times, also of one ID and one Due.
func TestLongLists(t *testing.T) {
	var falling, same []api.Ape
	for i := range 30000 {
		falling = append(falling, ape(30000-i, 30000-i, 1, 1, 0))
		same = append(same, ape(7, 30000, 1, 1, 0))
	}
	ids := Order(falling)
	if len(ids) != 30000 || !slices.IsSorted(ids) || ids[0] != 1 || !Fits(falling, 0) || Fits(falling, 1) || May(falling, 0) {
		t.Errorf("falling")
	}
	if len(Order(same)) != 30000 || !Fits(same, 0) || Fits(same, 1) || May(same, 0) {
		t.Errorf("same")
	}
	picks(t, falling, 1, 0, -1)
	picks(t, same, 7, 30001, -1)
}

// R3: the list that is handed in stays as it was, and what is answered is the caller's own.
func TestListsStayAsTheyWere(t *testing.T) {
	junk := ape(77, 77, 7, 7, 7)
	drawn(3000, func(l []api.Ape, cur, now int) {
		was := slices.Clone(l)
		// there is room behind the list, which is nobody's but the caller's
		roomy := append(make([]api.Ape, 0, 9), l...)
		behind := roomy[:9]
		order := Order(roomy)
		_, gone := Pick(roomy, cur, now)
		for i := range order {
			order[i] = 78
		}
		for i := range gone {
			gone[i] = 79
		}
		order, gone = append(order, 78), append(gone, 79)
		Fits(roomy, now)
		May(roomy, now)
		if !slices.Equal(roomy, was) || slices.ContainsFunc(behind[len(l):], func(a api.Ape) bool { return a != api.Ape{} }) {
			t.Errorf("%+v at %d: %+v", was, now, behind)
		}
		holds(t, roomy, now, cur)
		// what is answered stays when what was handed in changes
		order = Order(roomy)
		_, gone = Pick(roomy, cur, now)
		wantOrder, wantGone := slices.Clone(order), slices.Clone(gone)
		for i := range behind {
			behind[i] = junk
		}
		Order(behind)
		Pick(behind[:4], cur, now)
		if !slices.Equal(order, wantOrder) || !slices.Equal(gone, wantGone) {
			t.Errorf("%+v at %d: %v %v", was, now, order, gone)
		}
	})
}

// R5: what is told hangs on what is asked alone, not on what was asked ahead of it.
func TestAskedAgain(t *testing.T) {
	type asked struct {
		l        []api.Ape
		cur, now int
	}
	var all []asked
	drawn(500, func(l []api.Ape, cur, now int) { all = append(all, asked{l, cur, now}) })
	for i, a := range all {
		order, fits := Order(a.l), Fits(a.l, a.now)
		id, gone := Pick(a.l, a.cur, a.now)
		b := all[len(all)-1-i]
		Order(b.l)
		Fits(b.l, b.now)
		Pick(b.l, b.cur, b.now)
		for range 20 {
			again, more := Pick(a.l, a.cur, a.now)
			if again != id || !slices.Equal(more, gone) || !slices.Equal(Order(a.l), order) || Fits(a.l, a.now) != fits {
				t.Fatalf("%+v", a)
			}
		}
	}
}

// P13.3: what is picked can still end, is one of those handed in, and is not gone; nobody is gone twice; nobody is picked just where all are gone.
func TestWhatIsPickedCanEnd(t *testing.T) {
	drawn(60000, func(l []api.Ape, cur, now int) {
		id, gone := Pick(l, cur, now)
		at := refOf(l, id)
		if id == -1 {
			if len(gone) != len(l) {
				t.Fatalf("Pick(%+v, %d, %d): nobody, and %v", l, cur, now, gone)
			}
		} else if at < 0 || now+l[at].C-l[at].Ran > l[at].Due || slices.Contains(gone, id) {
			t.Fatalf("Pick(%+v, %d, %d): %d %v", l, cur, now, id, gone)
		}
		slices.Sort(gone)
		if len(slices.Compact(slices.Clone(gone))) != len(gone) || slices.ContainsFunc(gone, func(id int) bool { return refOf(l, id) < 0 }) {
			t.Fatalf("Pick(%+v, %d, %d): %v", l, cur, now, gone)
		}
	})
}

// ran is jobs when one of them has run once more: without it, if it has ended then.
func ran(l []api.Ape, id int) []api.Ape {
	l = slices.Clone(l)
	at := refOf(l, id)
	l[at].Ran++
	if l[at].Ran == l[at].C {
		l = slices.Delete(l, at, at+1)
	}
	return l
}

// P13.3: jobs that fit: the first one of their order runs, none is gone, and the others fit then, too; till all have ended, each by its time.
func TestAsLongAsTheyFit(t *testing.T) {
	s := state(5)
	runs := 0
	for range 20000 {
		now := s.drawTime()
		var l []api.Ape
		for id := range s.draw(1, most) {
			a := s.drawJob(s.draw(0, 99)*10+id, now)
			a.Due += s.draw(0, 1) * s.draw(0, 90)
			l = append(l, a)
		}
		if !Fits(l, now) {
			continue
		}
		runs++
		for len(l) > 0 && now <= last {
			id, gone := Pick(l, s.draw(-1, 999), now)
			if !Fits(l, now) || id != refOrder(l)[0] || len(gone) != 0 {
				t.Fatalf("%+v at %d: %v, %d %v", l, now, Fits(l, now), id, gone)
			}
			l = ran(l, id)
			now++
			if slices.ContainsFunc(l, func(a api.Ape) bool { return a.Due < now }) {
				t.Fatalf("%+v at %d", l, now)
			}
		}
	}
	if runs < 2000 {
		t.Errorf("%d", runs)
	}
}

// canEnd tells by trying all ways whether all jobs can end, if nobody else runs.
func canEnd(l []api.Ape, now int) bool {
	if len(l) == 0 {
		return true
	}
	for _, a := range l {
		if now < a.Due && canEnd(ran(l, a.ID), now+1) {
			return true
		}
	}
	return false
}

// P13.3: Fits tells yes just where there is any way at all in which all end, so that none is gone that need not be, if they fit.
func TestFitsJustWhereAllCanEnd(t *testing.T) {
	s := state(6)
	yes, no := 0, 0
	for range 4000 {
		var l []api.Ape
		now := s.draw(0, 3)
		for id := range s.draw(1, 3) {
			c := s.draw(1, 4)
			l = append(l, ape(id, s.draw(1, 11), c, 1, s.draw(0, c-1)))
		}
		if Fits(l, now) != canEnd(l, now) {
			t.Fatalf("%+v at %d: %v", l, now, Fits(l, now))
		}
		if Fits(l, now) {
			yes++
		} else {
			no++
		}
	}
	if yes < 500 || no < 500 {
		t.Errorf("%d and %d", yes, no)
	}
}
