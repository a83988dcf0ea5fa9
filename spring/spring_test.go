package spring

import (
	"math"
	"math/big"
	"slices"
	"testing"

	"fusee/api"
)

// unit and great are told by their numbers, so that a test fails if either is taken for another.
const (
	unit  = 1048576
	great = 1 << 40
)

// of is a spring of three numbers: U, Min and E.
func of(u, low, e int) api.Spr {
	return api.Spr{U: u, Min: low, E: e}
}

// refMay says by the chapter's words whether springs may be.
func refMay(l []api.Spr) bool {
	for _, s := range l {
		if s.Min < 1 || s.Min > s.U || s.U > unit || s.E < 0 || s.E > 8 {
			return false
		}
	}
	return len(l) <= 4
}

// refLeast is a spring's least, by the chapter's words.
func refLeast(s api.Spr) int {
	if s.E != 0 {
		return s.Min
	}
	return s.U
}

// refRoom says by the chapter's words whether there is room for springs.
func refRoom(l []api.Spr, load int) bool {
	if !refMay(l) || load < 0 || load > great {
		return false
	}
	for _, s := range l {
		load -= refLeast(s)
	}
	return load >= 0
}

// refHas is how many units, times b, a spring has by a through b.
func refHas(s api.Spr, a, b int) int {
	return max(b*s.U-a*s.E, b*refLeast(s))
}

// refAll is how many units, times b, springs have by a through b, together.
func refAll(l []api.Spr, a, b int) int {
	n := 0
	for _, s := range l {
		n += refHas(s, a, b)
	}
	return n
}

// refForce is the least force that is enough, of all that there may be: none, or one by which some give just what the others, at their least, do not, for each choice of these.
func refForce(l []api.Spr, load int) (int, int) {
	best := [2]int{0, 0}
	try := func(a, b int) {
		if b > 0 && a >= 0 && refAll(l, a, b) <= load*b && (best[1] == 0 || a*best[1] < best[0]*b) {
			best = [2]int{a, b}
		}
	}
	try(0, 1)
	for some := range 1 << len(l) {
		a, b := -load, 0
		for i, s := range l {
			if some>>i&1 == 1 {
				a, b = a+s.U, b+s.E
			} else {
				a += refLeast(s)
			}
		}
		try(a, b)
	}
	d := int(new(big.Int).GCD(nil, nil, big.NewInt(int64(best[0])), big.NewInt(int64(best[1]))).Int64())
	return best[0] / d, best[1] / d
}

// roomy is a copy of springs with room behind it, filled with a mark: a call that appends to what it was handed writes there.
func roomy(l []api.Spr) []api.Spr {
	return slices.Concat(l, slices.Repeat([]api.Spr{of(-7, -8, -9)}, 4))[: len(l) : len(l)+4]
}

// check fails if what is told of springs is not as said, or if a call changes them.
func check(t *testing.T, l []api.Spr, load, a, b int, u []int, ok bool) {
	t.Helper()
	in := roomy(l)
	kept := func(call string) {
		t.Helper()
		if !slices.Equal(in[:cap(in)], roomy(l)[:cap(in)]) {
			t.Fatalf("%s changed %v, by %d", call, l, load)
		}
	}
	if Room(in, load) != ok {
		t.Fatalf("Room(%v, %d): not %v", l, load, ok)
	}
	kept("Room")
	if x, y, is := Force(in, load); x != a || y != b || is != ok {
		t.Fatalf("Force(%v, %d): %d %d %v, not %d %d %v", l, load, x, y, is, a, b, ok)
	}
	kept("Force")
	if x, is := Press(in, load); !slices.Equal(x, u) || is != ok {
		t.Fatalf("Press(%v, %d): %v %v, not %v %v", l, load, x, is, u, ok)
	}
	kept("Press")
	if May(in) != refMay(l) {
		t.Fatalf("May(%v): not %v", l, refMay(l))
	}
	kept("May")
}

// none fails if there is room for springs, or anything else is told of them.
func none(t *testing.T, l []api.Spr, load int) {
	t.Helper()
	check(t, l, load, 0, 0, nil, false)
}

// hold holds all that is told of springs against the chapter's words.
func hold(t *testing.T, l []api.Spr, load int) {
	t.Helper()
	if !refRoom(l, load) {
		none(t, l, load)
		return
	}
	a, b := refForce(l, load)
	var u []int
	for _, s := range l {
		u = append(u, refHas(s, a, b)/b)
	}
	check(t, l, load, a, b, u, true)
}

// tops and leasts are how many units springs have, at most and at least, together.
func tops(l []api.Spr) int {
	return refAll(l, 0, 1)
}

func leasts(l []api.Spr) int {
	n := 0
	for _, s := range l {
		n += refLeast(s)
	}
	return n
}

// lists hands on every list of n springs, each of which is one of kinds.
func lists(n int, kinds []api.Spr, f func(l []api.Spr)) {
	if n == 0 {
		f(nil)
		return
	}
	lists(n-1, kinds, func(l []api.Spr) {
		for _, s := range kinds {
			f(append(slices.Clip(l), s))
		}
	})
}

// small is springs of few units, of each elasticity that is told.
func small(high int, es ...int) []api.Spr {
	var all []api.Spr
	for u := 1; u <= high; u++ {
		for low := 1; low <= u; low++ {
			for _, e := range es {
				all = append(all, of(u, low, e))
			}
		}
	}
	return all
}

// many hands on lists of springs of all sizes, which a rule makes one from the other, so that they are the same each time.
func many(n int, f func(l []api.Spr, next func(int) int)) {
	x := uint64(7)
	next := func(below int) int {
		x = x*6364136223846793005 + 1442695040888963407
		return int(x>>33) % below
	}
	for range n {
		l := make([]api.Spr, 1+next(4))
		size := 2 << next(20)
		for i := range l {
			u := 1 + next(size)
			l[i] = of(u, 1+next(u), next(9))
		}
		f(l, next)
	}
}

// two are the chapter's.
var two = []api.Spr{of(100, 50, 1), of(100, 50, 3)}

// P7.2, P7.3: the chapter's example, told in full.
func TestExample(t *testing.T) {
	check(t, two, 160, 10, 1, []int{90, 70}, true)
}

// P7.1: springs that may be, and that may not, each told by itself.
func TestMayAsWritten(t *testing.T) {
	for _, c := range []struct {
		l   []api.Spr
		may bool
	}{
		{nil, true}, {[]api.Spr{}, true}, {two, true}, {[]api.Spr{{}}, false}, {make([]api.Spr, 5), false},
		// Min, U and E at the least and at the greatest, and beside these
		{[]api.Spr{of(1, 1, 0)}, true}, {[]api.Spr{of(1, 1, 8)}, true}, {[]api.Spr{of(unit, 1, 0)}, true}, {[]api.Spr{of(unit, 1, 8)}, true}, {[]api.Spr{of(unit, unit, 8)}, true}, {[]api.Spr{of(unit, unit, 0)}, true}, {[]api.Spr{of(unit, unit-1, 3)}, true},
		{[]api.Spr{of(1, 0, 0)}, false}, {[]api.Spr{of(1, 2, 0)}, false}, {[]api.Spr{of(0, 0, 1)}, false}, {[]api.Spr{of(0, 1, 1)}, false}, {[]api.Spr{of(50, 51, 1)}, false}, {[]api.Spr{of(50, 50, 1)}, true}, {[]api.Spr{of(unit+1, 1, 1)}, false}, {[]api.Spr{of(unit+1, unit+1, 1)}, false}, {[]api.Spr{of(unit, unit+1, 1)}, false},
		{[]api.Spr{of(100, 50, -1)}, false}, {[]api.Spr{of(100, 50, 9)}, false}, {[]api.Spr{of(-5, -7, 1)}, false}, {[]api.Spr{of(5, -7, 1)}, false},
		// one whose E is 0 needs a Min that may be, too
		{[]api.Spr{of(100, 50, 0)}, true}, {[]api.Spr{of(100, 101, 0)}, false}, {[]api.Spr{of(100, 0, 0)}, false},
		// 4, and 5
		{slices.Repeat(two[:1], 3), true}, {slices.Repeat(two, 2), true}, {slices.Repeat(two[:1], 5), false}, {slices.Repeat(two, 3), false}, {slices.Repeat(two, 128), false}, {slices.Repeat(two, 1<<15), false},
	} {
		if May(c.l) != c.may {
			t.Errorf("May(%v): not %v", c.l, c.may)
		}
	}
}

// far are numbers that none of a spring's may be, beside those at its edges.
var far = []int{
	-1, -2, -8, -unit, 256 * unit, 1<<32 + 1, 1<<32 + 50, -1<<32 + 50, great, 1 << 62, -1 << 62, 1<<62 + 50,
	math.MaxInt, math.MaxInt - 1, math.MinInt, math.MinInt + 1, math.MinInt + 50,
}

// P7.1: numbers at the edges and far beyond, at each place of a spring, which stands at each place of a list.
func TestMayByItsMeaning(t *testing.T) {
	near := slices.Concat(far, []int{0, 1, 2, 7, 8, 9, 49, 50, 51, unit - 1, unit, unit + 1, unit + 2})
	for _, u := range near {
		for _, low := range near {
			for _, e := range near {
				s := of(u, low, e)
				for n := range 5 {
					for at := range n + 1 {
						l := slices.Repeat([]api.Spr{of(60, 50, 2)}, n+1)
						l[at] = s
						if May(l) != refMay(l) {
							t.Fatalf("May(%v): not %v", l, refMay(l))
						}
					}
				}
			}
		}
	}
}

// P7.1: room at the edges of what springs have together, and of a load, each told by itself.
func TestRoomAsWritten(t *testing.T) {
	full := slices.Repeat([]api.Spr{of(unit, unit, 8)}, 4)
	for _, c := range []struct {
		l    []api.Spr
		load int
		room bool
	}{
		{nil, 0, true}, {nil, -1, false}, {nil, 1, true}, {nil, great, true}, {nil, great + 1, false},
		{two, 100, true}, {two, 99, false}, {two, 101, true}, {two, 0, false}, {two, -1, false}, {two, 200, true}, {two, 201, true}, {two, great, true}, {two, great + 1, false},
		// one whose E is 0 has U at the least
		{[]api.Spr{of(100, 50, 0)}, 99, false}, {[]api.Spr{of(100, 50, 0)}, 100, true}, {[]api.Spr{of(100, 50, 1)}, 99, true}, {[]api.Spr{of(100, 50, 1)}, 49, false}, {[]api.Spr{of(100, 50, 0), of(60, 10, 2)}, 110, true}, {[]api.Spr{of(100, 50, 0), of(60, 10, 2)}, 109, false}, {[]api.Spr{of(60, 10, 2), of(100, 50, 0)}, 109, false},
		{full, 4 * unit, true}, {full, 4*unit - 1, false}, {full[:1], unit, true}, {full[:1], unit - 1, false},
		{[]api.Spr{of(1, 1, 0)}, 0, false}, {[]api.Spr{of(1, 1, 8)}, 1, true},
		// that there would be room is not enough
		{[]api.Spr{of(100, 0, 1)}, 500, false}, {slices.Repeat(two, 3), great, false}, {[]api.Spr{of(100, 101, 1)}, 500, false}, {[]api.Spr{of(unit+1, 1, 1)}, great, false},
	} {
		if Room(c.l, c.load) != c.room {
			t.Errorf("Room(%v, %d): not %v", c.l, c.load, c.room)
		}
	}
}

// P7.2, P7.3: forces, and units by them, each told in full.
func TestForceAndPressAsWritten(t *testing.T) {
	check(t, nil, 0, 0, 1, nil, true)
	check(t, nil, 7, 0, 1, nil, true)
	check(t, nil, great, 0, 1, nil, true)
	for _, c := range []struct {
		l    []api.Spr
		load int
		a, b int
		u    []int
	}{
		// all have U: of just that load, of one more, and of the greatest
		{two, 200, 0, 1, []int{100, 100}}, {two, 201, 0, 1, []int{100, 100}}, {two, great, 0, 1, []int{100, 100}}, {two, unit, 0, 1, []int{100, 100}},
		// one less: a force that is not whole
		{two, 199, 1, 4, []int{99, 99}}, {two, 198, 1, 2, []int{99, 98}}, {two, 197, 3, 4, []int{99, 97}}, {two, 196, 1, 1, []int{99, 97}}, {two, 161, 39, 4, []int{90, 70}}, {two, 162, 19, 2, []int{90, 71}},
		// the second one comes to its least, and is at it
		{two, 134, 33, 2, []int{83, 50}}, {two, 133, 17, 1, []int{83, 50}}, {two, 130, 20, 1, []int{80, 50}}, {two, 101, 49, 1, []int{51, 50}},
		// both are at it
		{two, 100, 50, 1, []int{50, 50}},
		// springs alone
		{[]api.Spr{of(10, 1, 3)}, 9, 1, 3, []int{9}}, {[]api.Spr{of(10, 1, 3)}, 8, 2, 3, []int{8}}, {[]api.Spr{of(10, 1, 3)}, 7, 1, 1, []int{7}}, {[]api.Spr{of(10, 1, 3)}, 1, 3, 1, []int{1}}, {[]api.Spr{of(10, 4, 8)}, 4, 3, 4, []int{4}}, {[]api.Spr{of(1, 1, 0)}, 1, 0, 1, []int{1}}, {[]api.Spr{of(1, 1, 8)}, 1, 0, 1, []int{1}},
		{[]api.Spr{of(unit, 1, 1)}, 1, unit - 1, 1, []int{1}}, {[]api.Spr{of(unit, 1, 8)}, 1, unit - 1, 8, []int{1}}, {[]api.Spr{of(unit, 1, 8)}, 2, (unit - 2) / 2, 4, []int{2}},
		// those that do not give: E is 0, or Min is U
		{[]api.Spr{of(100, 50, 0), of(60, 10, 2)}, 130, 15, 1, []int{100, 30}}, {[]api.Spr{of(100, 50, 0), of(60, 10, 2)}, 110, 25, 1, []int{100, 10}}, {[]api.Spr{of(60, 10, 2), of(100, 50, 0)}, 129, 31, 2, []int{29, 100}}, {[]api.Spr{of(100, 100, 5), of(60, 10, 2)}, 130, 15, 1, []int{100, 30}}, {[]api.Spr{of(100, 50, 0), of(60, 60, 4), of(8, 8, 0)}, 168, 0, 1, []int{100, 60, 8}},
		// one at its least, some, and all, by one force or another
		{[]api.Spr{of(10, 9, 1), of(10, 1, 1), of(10, 1, 1)}, 20, 9, 2, []int{9, 5, 5}}, {[]api.Spr{of(10, 9, 1), of(10, 8, 1), of(10, 1, 1)}, 20, 7, 1, []int{9, 8, 3}}, {[]api.Spr{of(10, 9, 1), of(10, 8, 1), of(10, 1, 1)}, 18, 9, 1, []int{9, 8, 1}}, {[]api.Spr{of(10, 9, 1), of(10, 9, 1), of(10, 9, 1)}, 27, 1, 1, []int{9, 9, 9}}, {[]api.Spr{of(10, 9, 1), of(10, 9, 1), of(10, 9, 1)}, 28, 2, 3, []int{9, 9, 9}},
		// one comes to its least only by what the others do not give
		{[]api.Spr{of(20, 18, 4), of(20, 10, 2), of(20, 1, 1), of(20, 1, 1)}, 60, 9, 2, []int{18, 11, 15, 15}}, {[]api.Spr{of(20, 18, 4), of(20, 10, 2), of(20, 1, 1), of(20, 1, 1)}, 58, 5, 1, []int{18, 10, 15, 15}}, {[]api.Spr{of(20, 18, 4), of(20, 10, 2), of(20, 1, 1), of(20, 1, 1)}, 50, 9, 1, []int{18, 10, 11, 11}}, {[]api.Spr{of(unit, 1, 1), of(unit, 1, 2), of(unit, 1, 3), of(unit, 1, 8)}, 2 * unit, 1048577, 6, []int{873813, 699050, 524287, 1}},
		// the greatest that there are
		{[]api.Spr{of(unit, 1, 8), of(unit, 1, 8), of(unit, 1, 8), of(unit, 1, 8)}, 4, unit - 1, 8, []int{1, 1, 1, 1}}, {[]api.Spr{of(unit, 1, 8), of(unit, 1, 8), of(unit, 1, 8), of(unit, 1, 8)}, 4*unit - 1, 1, 32, []int{unit - 1, unit - 1, unit - 1, unit - 1}}, {slices.Repeat([]api.Spr{of(unit, unit, 8)}, 4), 4 * unit, 0, 1, []int{unit, unit, unit, unit}},
	} {
		check(t, c.l, c.load, c.a, c.b, c.u, true)
	}
}

// P7.1, P7.2, P7.3: all lists of up to three springs of few units, and of four, by every load up to more than they have, held against the chapter's words.
func TestAllByTheirMeaning(t *testing.T) {
	hold(t, nil, 0)
	try := func(l []api.Spr) {
		for load := -1; load <= tops(l)+1; load++ {
			hold(t, l, load)
		}
		hold(t, l, great)
		hold(t, l, great+1)
	}
	lists(1, small(12, 0, 1, 2, 3, 4, 5, 6, 7, 8), try)
	lists(2, small(5, 0, 1, 2, 3, 8), try)
	lists(3, small(3, 0, 1, 3, 8), try)
	lists(4, []api.Spr{of(1, 1, 8), of(3, 2, 5), of(4, 1, 0), of(4, 1, 1), of(5, 1, 2), of(6, 2, 6)}, try)
}

// P7.1, P7.2, P7.3: springs of all sizes, by loads at the edges and between, held against the chapter's words.
func TestManyByTheirMeaning(t *testing.T) {
	many(20000, func(l []api.Spr, next func(int) int) {
		low, high := leasts(l), tops(l)
		for _, load := range []int{-1, 0, low - 1, low, low + 1, high - 1, high, high + 1, great, great + 1, low + next(high-low+1), low + next(high-low+1)} {
			hold(t, l, load)
		}
	})
}

// P7.2: by the force all together have no more than load, by any lesser one they have more, and no lesser numbers tell it.
func TestForceIsTheLeast(t *testing.T) {
	many(5000, func(l []api.Spr, next func(int) int) {
		load := leasts(l) + next(tops(l)-leasts(l)+1)
		a, b, ok := Force(l, load)
		if !ok || a < 0 || b < 1 || refAll(l, a, b) > load*b {
			t.Fatalf("Force(%v, %d): %d %d %v", l, load, a, b, ok)
		}
		for _, fine := range []int{1, 2, 3, 10, 1000} {
			if a > 0 && refAll(l, a*fine-1, b*fine) <= load*b*fine {
				t.Fatalf("Force(%v, %d): %d through %d, and a lesser one is enough", l, load, a, b)
			}
		}
		for d := 2; d <= b; d++ {
			if a%d == 0 && b%d == 0 {
				t.Fatalf("Force(%v, %d): %d and %d have %d in common", l, load, a, b, d)
			}
		}
	})
}

// P7.1, P7.2, P7.3: one that may not be, by any load, as the first one, the last one and the only one, in lists of all lengths.
func TestSpringsThatMayNotBe(t *testing.T) {
	var bad []api.Spr
	for _, x := range slices.Concat(far, []int{unit + 1, unit + 2}) {
		bad = append(bad, of(x, 50, 1), of(100, x, 1), of(100, 50, x), of(x, x, 1), of(x, x, x), of(x, x, 0), of(100, x, 0))
	}
	bad = append(bad, of(0, 0, 0), of(0, 50, 1), of(100, 0, 1), of(49, 50, 1), of(100, 101, 1), of(100, 50, 9), of(100, 50, 10), of(100, 0, 0), of(100, 101, 0))
	for _, s := range bad {
		for n := 1; n <= 5; n++ {
			for _, at := range []int{0, n - 1} {
				l := slices.Repeat([]api.Spr{of(60, 10, 2)}, n)
				l[at] = s
				for _, load := range []int{-1, 0, 50, 60 * n, 100 * n, 5 * unit, great, great + 1, math.MaxInt, math.MinInt} {
					none(t, l, load)
				}
			}
		}
	}
}

// P7.1, P7.2, P7.3: more than 4, of which each one may be.
func TestTooManySprings(t *testing.T) {
	for _, n := range []int{5, 6, 8, 256, 260, 1000, 1001, 65536, 65540} {
		for _, s := range []api.Spr{of(1, 1, 0), of(100, 50, 1), of(unit, 1, 8)} {
			l := slices.Repeat([]api.Spr{s}, n)
			for _, load := range []int{0, 4, 5, n * s.Min, n * s.U, great} {
				none(t, l, load)
			}
		}
	}
}

// P7.1, P7.2, P7.3: loads that may not be, and such as there is no room for.
func TestWrongLoads(t *testing.T) {
	for _, l := range [][]api.Spr{nil, two, {of(1, 1, 0)}, slices.Repeat([]api.Spr{of(unit, 1, 8)}, 4)} {
		for _, load := range []int{-1, -2, -160, -great, -1 << 62, math.MinInt, math.MinInt + 160, great + 1, great + 2, great + 160, 1 << 62, 1<<62 + 160, math.MaxInt, math.MaxInt - 1} {
			none(t, l, load)
		}
		for load := leasts(l) - 1; load >= max(-1, leasts(l)-20); load-- {
			none(t, l, load)
		}
	}
}

// P7.2, P7.3: the same springs in another order have the same force, and each the same units; so has who asks again.
func TestTheOrderIsNothing(t *testing.T) {
	many(2000, func(l []api.Spr, next func(int) int) {
		load := leasts(l) + next(tops(l)-leasts(l)+1)
		a, b, _ := Force(l, load)
		u, _ := Press(l, load)
		for turn := range len(l) + 1 {
			from := turn % len(l)
			check(t, slices.Concat(l[from:], l[:from]), load, a, b, slices.Concat(u[from:], u[:from]), true)
		}
	})
}

// P7.3: what was answered is the caller's own: who changes it changes neither the springs nor what is answered next.
func TestUnitsAreTheCallersOwn(t *testing.T) {
	l := slices.Clone(two)
	u, _ := Press(l, 160)
	for i := range u {
		u[i] = -1
	}
	_ = append(u, -1)
	if !slices.Equal(l, two) {
		t.Errorf("%v", l)
	}
	check(t, l, 160, 10, 1, []int{90, 70}, true)
	first, _ := Press(l, 160)
	l[0] = of(7, 7, 7)
	if !slices.Equal(first, []int{90, 70}) {
		t.Errorf("%v", first)
	}
}

// P7.3: the units are within each one's own, no more than load together, and fewer than all that there is by less than one each.
func TestUnitsAreWithin(t *testing.T) {
	many(5000, func(l []api.Spr, next func(int) int) {
		load := leasts(l) + next(tops(l)-leasts(l)+1)
		u, _ := Press(l, load)
		sum := 0
		for i, s := range l {
			if u[i] < refLeast(s) || u[i] > s.U {
				t.Fatalf("Press(%v, %d): %v", l, load, u)
			}
			sum += u[i]
		}
		if sum > load || sum <= load-len(l) {
			t.Fatalf("Press(%v, %d): %v, %d together", l, load, u, sum)
		}
	})
}

// strain is the squares of what each spring is pressed, through its E, together, times 840, which each E has a part in; x is units times b.
func strain(l []api.Spr, x []int, b int) int {
	n := 0
	for i, s := range l {
		if s.E > 0 {
			n += (b*s.U - x[i]) * (b*s.U - x[i]) * (840 / s.E)
		}
	}
	return n
}

// P7.4: of all units by parts of the second number, from each one's least to its U, and no more than load together, none but those by the force have as little strain.
func TestTheLeastStrain(t *testing.T) {
	try := func(l []api.Spr) {
		for load := leasts(l); load <= tops(l)+1; load++ {
			a, b, _ := Force(l, load)
			by := make([]int, len(l))
			for i, s := range l {
				by[i] = refHas(s, a, b)
			}
			least, x := strain(l, by, b), make([]int, len(l))
			var walk func(i, left int)
			walk = func(i, left int) {
				if left < 0 {
					return
				}
				if i < len(l) {
					for x[i] = b * refLeast(l[i]); x[i] <= b*l[i].U; x[i]++ {
						walk(i+1, left-x[i])
					}
					return
				}
				if n := strain(l, x, b); n < least || n == least && !slices.Equal(x, by) {
					t.Fatalf("%v, %d: %v through %d has %d, and %v, by the force, %d", l, load, x, b, n, by, least)
				}
			}
			walk(0, b*load)
		}
	}
	lists(1, small(6, 0, 1, 2, 3, 4, 5, 6, 7, 8), try)
	lists(2, small(4, 0, 1, 2, 3, 8), try)
	lists(3, []api.Spr{of(1, 1, 1), of(2, 1, 4), of(3, 1, 0), of(3, 1, 1), of(4, 1, 2)}, try)
	try([]api.Spr{of(3, 1, 1), of(3, 2, 1), of(3, 1, 2), of(2, 1, 1)})
}

// P7.4: to give to one and take from another, whichever two, however little, never lessens the strain of those by the force.
func TestNoTwoHaveLessStrain(t *testing.T) {
	square := func(s api.Spr, pressed *big.Int) *big.Rat {
		n := new(big.Int).Mul(pressed, pressed)
		return new(big.Rat).SetFrac(n, big.NewInt(int64(s.E)))
	}
	many(1000, func(l []api.Spr, next func(int) int) {
		load := leasts(l) + next(tops(l)-leasts(l)+1)
		a, b, _ := Force(l, load)
		for _, fine := range []int{1, 7, 1000} {
			for i, s := range l {
				for j, r := range l {
					x, y := refHas(s, a, b)*fine, refHas(r, a, b)*fine
					if i == j || s.E == 0 || r.E == 0 || x == b*fine*s.U || y == b*fine*refLeast(r) {
						continue
					}
					moved := func(s api.Spr, x, by int) *big.Rat { return square(s, big.NewInt(int64(b*fine*s.U-x-by))) }
					as := new(big.Rat).Add(moved(s, x, 0), moved(r, y, 0))
					other := new(big.Rat).Add(moved(s, x, 1), moved(r, y, -1))
					if other.Cmp(as) < 0 {
						t.Fatalf("%v, %d: less strain if %d takes of %d", l, load, i, j)
					}
				}
			}
		}
	})
}
