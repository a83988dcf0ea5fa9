package ring

import (
	"math"
	"slices"
	"testing"

	"fusee/api"
)

// wrongRings may none of them be: N beyond its limits, or B with a bit beyond the outcomes.
var wrongRings = []api.Ring{
	{N: -1}, {N: -1, B: 1}, {N: -64}, {N: math.MinInt}, {N: math.MinInt, B: math.MaxUint64},
	{N: 61}, {N: 61, B: 1}, {N: 63, B: 5}, {N: 64}, {N: 64, B: math.MaxUint64}, {N: 65, B: 3}, {N: 128, B: 7}, {N: math.MaxInt}, {N: math.MaxInt, B: 1},
	{B: 1}, {B: math.MaxUint64}, {N: 1, B: 2}, {N: 2, B: 4}, {N: 2, B: 7}, {N: 3, B: 1 << 63},
	{N: 59, B: 1 << 59}, {N: 60, B: 1 << 60}, {N: 60, B: math.MaxUint64}, {N: 60, B: 1<<63 | 1},
}

// wrongPairs may none of them be: m, and k.
var wrongPairs = [][2]int{
	{0, 0}, {0, 1}, {0, 6}, {1, 0}, {2, 1}, {3, 2}, {7, 6}, {7, 7}, {1, 7}, {1, 60}, {60, 60},
	{-1, 2}, {-1, -1}, {-2, -1}, {1, -1}, {math.MinInt, 1}, {1, math.MinInt}, {math.MinInt, math.MinInt},
	{1, math.MaxInt}, {math.MaxInt, 6}, {math.MaxInt, math.MaxInt}, {math.MinInt, math.MaxInt},
}

// numbers are how many of the last ones are asked of, beside those near a ring's length.
var numbers = []int{math.MinInt, math.MinInt + 1, -61, -60, -2, -1, 0, 1, 2, 3, 6, 7, 59, 60, 61, 64, 65, 1 << 40, math.MaxInt - 1, math.MaxInt}

// outcomesOf reads a text: each 1 is a good one.
func outcomesOf(text string) []bool {
	l := make([]bool, len(text))
	for i := range text {
		l[i] = text[i] == '1'
	}
	return l
}

// repeated are n outcomes, all of one kind.
func repeated(good bool, n int) []bool {
	return slices.Repeat([]bool{good}, n)
}

// joined are outcomes behind others, in memory of their own.
func joined(a ...[]bool) []bool { return slices.Concat(a...) }

// histories are all lists of up to 9 outcomes, and longer ones, up to some more than a ring holds.
func histories() [][]bool {
	var all [][]bool
	for n := range 10 {
		for b := range 1 << n {
			l := make([]bool, n)
			for i := range l {
				l[i] = b>>i&1 == 1
			}
			all = append(all, l)
		}
	}
	for _, n := range []int{12, 31, 32, 33, 57, 58, 59, 60, 61, 62, 66, 119, 120, 121, 180} {
		all = append(all, repeated(true, n), repeated(false, n))
		for step := 2; step <= 7; step++ {
			for at := range step {
				one, others := repeated(false, n), repeated(true, n)
				for i := at; i < n; i += step {
					one[i], others[i] = true, false
				}
				all = append(all, one, others)
			}
		}
		for seed := range uint32(20) {
			l := make([]bool, n)
			x := seed*2654435761 + uint32(n)
			for i := range l {
				x = x*1664525 + 1013904223
				l[i] = x>>28 > seed%16
			}
			all = append(all, l)
		}
	}
	return all
}

// kept are the outcomes of l that a ring remembers.
func kept(l []bool) []bool { return l[max(0, len(l)-60):] }

// goods are how many outcomes of l are good.
func goods(l []bool) int {
	n := 0
	for _, g := range l {
		if g {
			n++
		}
	}
	return n
}

// fine is what Fine tells of outcomes, window by window.
func fine(l []bool, m, k int) bool {
	for len(l) >= k {
		if goods(l[:k]) < m {
			return false
		}
		l = l[1:]
	}
	return true
}

// far is what Far tells of outcomes: good ones ahead, bad ones behind, as the document says it.
func far(l []bool, m, k int) int {
	for n := 0; n <= k; n++ {
		all := joined(repeated(true, max(0, k-len(l)-n)), l, repeated(false, n))
		if goods(all[len(all)-k:]) < m {
			return n
		}
	}
	return -1
}

// eachPair hands on every m and k that may be.
func eachPair(f func(m, k int)) {
	for k := 1; k <= 6; k++ {
		for m := 1; m <= k; m++ {
			f(m, k)
		}
	}
}

// P3.1: which rings may be, by N and by B, at both ends of each.
func TestMay(t *testing.T) {
	for n := 0; n <= 60; n++ {
		top := uint64(1) << n
		for _, b := range []uint64{0, top / 2, top - 1} {
			if !May(api.Ring{N: n, B: b}) {
				t.Errorf("N %d, B %d may not be", n, b)
			}
		}
		for _, b := range []uint64{top, top + 1, top * 2, top * 4, 1 << 63, math.MaxUint64} {
			if May(api.Ring{N: n, B: b}) {
				t.Errorf("N %d, B %d may be", n, b)
			}
		}
	}
	for _, r := range wrongRings {
		if May(r) {
			t.Errorf("%v may be", r)
		}
	}
}

// P3.1: what a ring of outcomes is, number by number.
func TestRingsByNumber(t *testing.T) {
	for _, c := range []struct {
		text string
		want api.Ring
	}{
		{"", api.Ring{}}, {"0", api.Ring{N: 1}}, {"1", api.Ring{N: 1, B: 1}},
		{"101", api.Ring{N: 3, B: 5}}, {"100", api.Ring{N: 3, B: 4}}, {"001", api.Ring{N: 3, B: 1}}, {"1101000", api.Ring{N: 7, B: 104}},
	} {
		l := outcomesOf(c.text)
		if r := Of(l); r != c.want || !slices.Equal(List(r), l) {
			t.Errorf("%s: %v, %v", c.text, r, List(r))
		}
	}
	if r := Of(nil); r != (api.Ring{}) || len(List(r)) != 0 {
		t.Errorf("of nothing: %v", r)
	}
}

// P3.1: 60 outcomes and one more, all good and all bad, and one of the other kind that goes.
func TestSixtyAndOneMore(t *testing.T) {
	const all = 1<<60 - 1
	good, bad := Of(repeated(true, 60)), Of(repeated(false, 60))
	for i, c := range []struct{ got, want api.Ring }{
		{good, api.Ring{N: 60, B: all}}, {bad, api.Ring{N: 60}},
		{Put(good, true), api.Ring{N: 60, B: all}}, {Put(bad, false), api.Ring{N: 60}},
		{Put(good, false), api.Ring{N: 60, B: all - 1}}, {Put(bad, true), api.Ring{N: 60, B: 1}},
		{Of(joined([]bool{true}, repeated(false, 59))), api.Ring{N: 60, B: 1 << 59}},
		{Of(joined([]bool{true}, repeated(false, 60))), api.Ring{N: 60}},
		{Of(joined([]bool{false}, repeated(true, 60))), api.Ring{N: 60, B: all}},
		{Put(Of(repeated(true, 59)), false), api.Ring{N: 60, B: all - 1}},
	} {
		if c.got != c.want || !May(c.got) || len(List(c.got)) != 60 {
			t.Errorf("%d: %v, not %v", i, c.got, c.want)
		}
	}
}

// P3.1 and P3.4: Put by Put and Of of all are one, each is a ring that may be, and lists what is remembered, the last one last.
func TestPutAndOfAndList(t *testing.T) {
	for _, l := range histories() {
		var r api.Ring
		for i, g := range l {
			r = Put(r, g)
			if !May(r) || !slices.Equal(List(r), kept(l[:i+1])) {
				t.Fatalf("%v, %d put: %v", l, i+1, r)
			}
			if list := List(r); list[len(list)-1] != g || Good(r, 1) != goods([]bool{g}) {
				t.Fatalf("%v, %d put: the last one", l, i+1)
			}
		}
		if Of(l) != r {
			t.Fatalf("%v: %v, not %v", l, Of(l), r)
		}
	}
}

// P3.2: how many of the last n are good, for n below 0, up to as many as there are, and beyond it.
func TestGood(t *testing.T) {
	for _, l := range histories() {
		r, in := Of(l), kept(l)
		try := func(n int) {
			want := goods(in[len(in)-max(0, min(n, len(in))):])
			if Good(r, n) != want {
				t.Fatalf("Good(%v, %d): %d, not %d", r, n, Good(r, n), want)
			}
		}
		for n := -2; n <= len(in)+2; n++ {
			try(n)
		}
		for _, n := range numbers {
			try(n)
		}
	}
	r := Of(outcomesOf("1101"))
	for n, want := range []int{0, 1, 1, 2, 3, 3} {
		if Good(r, n) != want {
			t.Errorf("%d of the last: %d", n, Good(r, n))
		}
	}
}

// P3.2: whether enough are good, in each window of k.
func TestFine(t *testing.T) {
	for _, l := range histories() {
		r, in := Of(l), kept(l)
		eachPair(func(m, k int) {
			if Fine(r, m, k) != fine(in, m, k) {
				t.Fatalf("Fine(%v, %d, %d): %v", in, m, k, Fine(r, m, k))
			}
		})
	}
	for _, c := range []struct {
		text string
		m, k int
		want bool
	}{
		{"", 6, 6, true}, {"00000", 6, 6, true}, {"000000", 1, 6, false}, {"100000", 1, 6, true}, {"1000000", 1, 6, false},
		{"111111", 6, 6, true}, {"111110", 6, 6, false}, {"011111", 6, 6, false}, {"0", 1, 1, false}, {"1", 1, 1, true},
		{"00111", 2, 3, false}, {"11100", 2, 3, false}, {"110011", 2, 3, false}, {"110110", 2, 3, true},
	} {
		if Fine(Of(outcomesOf(c.text)), c.m, c.k) != c.want {
			t.Errorf("%s, %d of %d: not %v", c.text, c.m, c.k, c.want)
		}
	}
}

// P3.2: what fails only in the first window, or only in the last one, of a full ring; and what is no more fails nowhere.
func TestFineAtBothEndsOfAFullRing(t *testing.T) {
	first := joined(repeated(false, 2), repeated(true, 58))
	last := joined(repeated(true, 58), repeated(false, 2))
	if Fine(Of(first), 2, 3) || Fine(Of(last), 2, 3) {
		t.Error("a window at an end is not looked at")
	}
	if !Fine(Put(Of(first), true), 2, 3) {
		t.Error("the first one is remembered")
	}
}

// P3.3: how far it is from too few, as good ones ahead and bad ones behind tell it.
func TestFar(t *testing.T) {
	for _, l := range histories() {
		r, in := Of(l), kept(l)
		eachPair(func(m, k int) {
			n, want := Far(r, m, k), far(in, m, k)
			if n != want || n < 0 || n > k {
				t.Fatalf("Far(%v, %d, %d): %d, not %d", in, m, k, n, want)
			}
		})
	}
	for _, c := range []struct {
		text    string
		m, k, n int
	}{
		{"101", 2, 3, 1}, {"", 1, 1, 1}, {"", 1, 6, 6}, {"", 6, 6, 1}, {"", 3, 5, 3}, {"0", 6, 6, 0}, {"1", 6, 6, 1}, {"0", 1, 6, 5},
		{"000000", 1, 6, 0}, {"100000", 1, 6, 1}, {"000001", 1, 6, 6}, {"00000", 1, 6, 1}, {"0", 1, 2, 1}, {"00", 1, 2, 0}, {"0", 2, 4, 2}, {"00", 2, 4, 1}, {"000", 2, 4, 0},
	} {
		if n := Far(Of(outcomesOf(c.text)), c.m, c.k); n != c.n {
			t.Errorf("%s, %d of %d: %d, not %d", c.text, c.m, c.k, n, c.n)
		}
	}
}

// P3.3: that far and no farther: so many bad ones put leave too few good of the last k, and one less does not.
func TestFarByPut(t *testing.T) {
	for _, l := range histories() {
		eachPair(func(m, k int) {
			r := Of(joined(repeated(true, max(0, k-len(l))), l))
			n := Far(Of(l), m, k)
			for put := 0; put < n; put++ {
				if Good(r, k) < m {
					t.Fatalf("%v, %d of %d: %d far, but %d do", l, m, k, n, put)
				}
				r = Put(r, false)
			}
			if Good(r, k) >= m {
				t.Fatalf("%v, %d of %d: %d far, but more can be", l, m, k, n)
			}
		})
	}
}

// P3.2 and P3.3: m and k that may not be: all is fine, and k far, whatever the ring.
func TestWrongPairs(t *testing.T) {
	rings := append([]api.Ring{{}, Of([]bool{false}), Of(repeated(false, 60)), Of(repeated(true, 60))}, wrongRings...)
	for _, w := range wrongPairs {
		for _, r := range rings {
			if !Fine(r, w[0], w[1]) || Far(r, w[0], w[1]) != w[1] {
				t.Errorf("%v, %d of %d: %v, %d", r, w[0], w[1], Fine(r, w[0], w[1]), Far(r, w[0], w[1]))
			}
		}
	}
}

// P3.1: of a ring that may not be all calls tell as of a zero one.
func TestWrongRings(t *testing.T) {
	for _, r := range wrongRings {
		if Put(r, true) != (api.Ring{N: 1, B: 1}) || Put(r, false) != (api.Ring{N: 1}) || len(List(r)) != 0 {
			t.Errorf("%v: %v, %v, %v", r, Put(r, true), Put(r, false), List(r))
		}
		for _, n := range numbers {
			if Good(r, n) != 0 {
				t.Errorf("Good(%v, %d): %d", r, n, Good(r, n))
			}
		}
		eachPair(func(m, k int) {
			if !Fine(r, m, k) || Far(r, m, k) != k-m+1 {
				t.Errorf("%v, %d of %d: %v, %d", r, m, k, Fine(r, m, k), Far(r, m, k))
			}
		})
	}
}

// P3.4: a good one makes it no nearer, and a bad one no farther.
func TestNoNearer(t *testing.T) {
	for _, l := range histories() {
		r := Of(l)
		eachPair(func(m, k int) {
			n := Far(r, m, k)
			if Far(Put(r, true), m, k) < n || Far(Put(r, false), m, k) > n {
				t.Fatalf("%v, %d of %d: %d, then %d or %d", kept(l), m, k, n, Far(Put(r, true), m, k), Far(Put(r, false), m, k))
			}
		})
	}
}

// R3: a list that is handed in stays, and one that is answered is the caller's own.
func TestListsAreTheCallersOwn(t *testing.T) {
	l := outcomesOf("1011")
	r := Of(l)
	if !slices.Equal(l, outcomesOf("1011")) {
		t.Errorf("handed in: %v", l)
	}
	a, b := List(r), List(r)
	for i := range a {
		a[i], l[i] = !a[i], false
	}
	if !slices.Equal(b, outcomesOf("1011")) || !slices.Equal(List(r), b) {
		t.Errorf("answered: %v, %v", b, List(r))
	}
}
