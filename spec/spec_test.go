package spec

import (
	"math"
	"slices"
	"testing"

	"fusee/api"
)

// of is a description of six numbers, in the order of its bytes.
func of(l [6]int) api.Spec {
	return api.Spec{C: l[0], T: l[1], Max: l[2], M: l[3], K: l[4], E: l[5]}
}

// refMay says by the chapter's words whether six numbers may be, without pat.
func refMay(l [6]int) bool {
	c, t, high, m, k, e := l[0], l[1], l[2], l[3], l[4], l[5]
	return c >= 1 && c <= 6 && c <= t && t <= high && high <= 48 &&
		m >= 1 && m <= k && k <= 6 && e >= 0 && e <= 8 && (e != 0 || t == high)
}

// good may all be: they stand at the edges and between.
var good = [][6]int{
	{2, 10, 20, 1, 2, 3},
	{1, 1, 1, 1, 1, 0}, {1, 1, 1, 1, 1, 1}, {1, 1, 48, 1, 6, 8}, {1, 48, 48, 6, 6, 0}, {1, 2, 3, 4, 5, 6},
	{6, 6, 6, 6, 6, 0}, {6, 6, 6, 1, 1, 8}, {6, 6, 48, 6, 6, 1}, {6, 48, 48, 6, 6, 8}, {6, 47, 48, 5, 6, 7}, {3, 17, 17, 2, 5, 0},
}

// bad may none of them be.
var bad = [][6]int{
	{0, 0, 0, 0, 0, 0},
	// C of 0 and of 7
	{0, 10, 20, 1, 2, 3}, {0, 0, 20, 1, 2, 3}, {7, 10, 20, 1, 2, 3}, {7, 7, 7, 1, 2, 0}, {-1, 10, 20, 1, 2, 3},
	// T below C, and above Max
	{3, 2, 20, 1, 2, 3}, {6, 5, 48, 1, 2, 3}, {1, 0, 20, 1, 2, 3}, {2, 21, 20, 1, 2, 3}, {2, 48, 47, 1, 2, 3}, {3, 2, 2, 1, 2, 0},
	// Max below T, and of 49
	{2, 10, 9, 1, 2, 3}, {2, 10, 49, 1, 2, 3}, {2, 49, 49, 1, 2, 3}, {2, 49, 49, 1, 2, 0}, {2, 10, 0, 1, 2, 3},
	// M of 0 and above K, K of 0 and of 7
	{2, 10, 20, 0, 2, 3}, {2, 10, 20, 3, 2, 3}, {2, 10, 20, 7, 6, 3}, {2, 10, 20, 1, 0, 3}, {2, 10, 20, 0, 0, 3}, {2, 10, 20, 1, 7, 3}, {2, 10, 20, 7, 7, 3}, {2, 10, 20, -1, 2, 3}, {2, 10, 20, 1, -2, 3},
	// E of -1 and of 9, and E of 0 with T that is not Max
	{2, 10, 20, 1, 2, -1}, {2, 20, 20, 1, 2, -1}, {2, 10, 20, 1, 2, 9}, {2, 20, 20, 1, 2, 9}, {2, 10, 20, 1, 2, 0}, {2, 19, 20, 1, 2, 0}, {2, 21, 20, 1, 2, 0}, {1, 1, 48, 1, 1, 0},
}

// same are numbers whose last byte is that of n, none of which fits anywhere.
func same(n int) []int {
	return []int{n + 256, n - 256, n + 512, n + 1<<16, n - 1<<16, n + 1<<32, n - 1<<32, n + 1<<62, n - 1<<62, n + math.MinInt}
}

// far fit nowhere.
var far = []int{-1, -2, -128, -255, -256, 49, 127, 128, 254, 255, 256, 257, 1 << 31, 1 << 32, -1 << 32, math.MaxInt - 1, math.MaxInt, math.MinInt, math.MinInt + 1}

// each hands on every six numbers that may be, and tells how many there are.
func each(f func(l [6]int)) int {
	n := 0
	for c := 1; c <= 6; c++ {
		for t := c; t <= 48; t++ {
			for high := t; high <= 48; high++ {
				for k := 1; k <= 6; k++ {
					for m := 1; m <= k; m++ {
						for e := range 9 {
							if e == 0 && t != high {
								continue
							}
							f([6]int{c, t, high, m, k, e})
							n++
						}
					}
				}
			}
		}
	}
	return n
}

// roomy are bytes with room behind them, filled with a mark: a call that appends to what it was handed writes there.
func roomy(l []byte) []byte {
	b := slices.Concat(l, []byte{0xa5, 0xa5, 0xa5, 0xa5})
	return b[:len(l)]
}

// none fails if six numbers are taken as such that may be, by any call.
func none(t *testing.T, l [6]int) {
	t.Helper()
	s := of(l)
	if May(s) {
		t.Errorf("May(%v)", l)
	}
	if b, ok := Put(s); len(b) != 0 || ok {
		t.Errorf("Put(%v): %v %v", l, b, ok)
	}
	for _, p := range [][2]int{{l[1], l[2]}, {6, 48}, {10, 10}, {48, 48}, {6, 6}} {
		if got, ok := Stretch(s, p[0], p[1]); got != (api.Spec{}) || ok {
			t.Errorf("Stretch(%v, %v): %v %v", l, p, got, ok)
		}
	}
}

// noneOf fails if there is a description of these bytes, or they are changed.
func noneOf(t *testing.T, b []byte) {
	t.Helper()
	in := roomy(b)
	if s, ok := Get(in); s != (api.Spec{}) || ok {
		t.Errorf("Get(%v): %v %v", b, s, ok)
	}
	if !slices.Equal(in[:cap(in)], roomy(b)[:cap(in)]) {
		t.Errorf("Get(%v) changed them: %v", b, in[:cap(in)])
	}
}

// P5.1: the chapter's example, told in full.
func TestExample(t *testing.T) {
	s := api.Spec{C: 2, T: 10, Max: 20, M: 1, K: 2, E: 3}
	if !May(s) {
		t.Error("May")
	}
	if b, ok := Put(s); !slices.Equal(b, []byte{2, 10, 20, 1, 2, 3}) || !ok {
		t.Errorf("Put: %v %v", b, ok)
	}
	if got, ok := Get([]byte{2, 10, 20, 1, 2, 3}); got != s || !ok {
		t.Errorf("Get: %v %v", got, ok)
	}
}

// P5.1: those that may be, their bytes in order, and back.
func TestThoseThatMayBe(t *testing.T) {
	for _, l := range good {
		want := make([]byte, 6)
		for i, n := range l {
			want[i] = byte(n)
		}
		if !May(of(l)) {
			t.Errorf("May(%v): no", l)
		}
		if b, ok := Put(of(l)); !slices.Equal(b, want) || !ok {
			t.Errorf("Put(%v): %v %v", l, b, ok)
		}
		if s, ok := Get(want); s != of(l) || !ok {
			t.Errorf("Get(%v): %v %v", want, s, ok)
		}
	}
}

// P5.1 and P5.2: those that may not be, by every call: also stretched to periods that would fit.
func TestThoseThatMayNotBe(t *testing.T) {
	none(t, [6]int{})
	for _, l := range bad {
		none(t, l)
	}
	for _, l := range good {
		for i, n := range l {
			for _, x := range slices.Concat(far, same(n)) {
				one := l
				one[i] = x
				none(t, one)
				// a second one that is wrong does not mend the first
				one[(i+1)%6] = x
				none(t, one)
			}
		}
	}
	for _, x := range slices.Concat(far, []int{0, 7, 9}) {
		none(t, [6]int{x, x, x, x, x, x})
	}
}

// P5.1: May of all numbers near the edges, held against the chapter's words.
func TestMayByItsMeaning(t *testing.T) {
	near := [6][]int{
		{-1, 0, 1, 2, 5, 6, 7, 8},
		{-1, 0, 1, 2, 5, 6, 7, 20, 47, 48, 49},
		{-1, 0, 1, 2, 5, 6, 7, 20, 47, 48, 49, 50},
		{-1, 0, 1, 2, 5, 6, 7},
		{-1, 0, 1, 2, 5, 6, 7},
		{-1, 0, 1, 7, 8, 9},
	}
	at, total := [6]int{}, 1
	for _, l := range near {
		total *= len(l)
	}
	for n := range total {
		for i := range at {
			at[i] = near[i][n%len(near[i])]
			n /= len(near[i])
		}
		if May(of(at)) != refMay(at) {
			t.Fatalf("May(%v): %v", at, May(of(at)))
		}
	}
}

// P5.1: each byte by itself through all its values: the description is there just if its numbers may be.
func TestGetByItsMeaning(t *testing.T) {
	for _, l := range good {
		for i := range l {
			for x := range 256 {
				one := l
				one[i] = x
				b := make([]byte, 6)
				for j, n := range one {
					b[j] = byte(n)
				}
				if !refMay(one) {
					noneOf(t, b)
				} else if s, ok := Get(b); s != of(one) || !ok {
					t.Errorf("Get(%v): %v %v", b, s, ok)
				}
			}
		}
	}
	for _, l := range bad {
		b := make([]byte, 6)
		for i, n := range l {
			b[i] = byte(n)
		}
		noneOf(t, b)
	}
}

// P5.1: bytes that are fewer or more than six, or none at all.
func TestGetOfOtherLengths(t *testing.T) {
	if s, ok := Get(nil); s != (api.Spec{}) || ok {
		t.Errorf("Get(nil): %v %v", s, ok)
	}
	for _, l := range good {
		b, _ := Put(of(l))
		for n := range 6 {
			noneOf(t, b[:n])
			noneOf(t, b[n+1:])
		}
		for _, more := range [][]byte{{0}, {1}, {255}, {0, 0}, b, make([]byte, 250), make([]byte, 256), make([]byte, 1<<16)} {
			noneOf(t, slices.Concat(b, more))
			noneOf(t, slices.Concat(more, b))
		}
	}
	noneOf(t, []byte{})
	noneOf(t, make([]byte, 6))
	noneOf(t, []byte{255, 255, 255, 255, 255, 255})
}

// P5.1 with R3: bytes that are handed in stay as they were, and those that are answered are the caller's own.
func TestBytesAreNotShared(t *testing.T) {
	for _, l := range good {
		b, _ := Put(of(l))
		was := slices.Clone(b)
		in := roomy(b)
		s, ok := Get(in)
		if !ok || !slices.Equal(in[:cap(in)], roomy(was)[:cap(in)]) {
			t.Errorf("Get(%v) changed them: %v", was, in[:cap(in)])
		}
		clear(in[:cap(in)])
		if s != of(l) {
			t.Errorf("Get(%v) hangs on them: %v", was, s)
		}
		other, _ := Put(of(l))
		clear(b[:cap(b)])
		again, _ := Put(of(l))
		if !slices.Equal(other, was) || !slices.Equal(again, was) {
			t.Errorf("Put(%v) shares: %v, %v", l, other, again)
		}
	}
}

// P5.2: Stretch at the edges, each told in full.
func TestStretchAsWritten(t *testing.T) {
	for _, c := range []struct {
		l       [6]int
		t, high int
		want    bool
	}{
		{[6]int{2, 10, 20, 1, 2, 3}, 10, 20, true}, {[6]int{2, 10, 20, 1, 2, 3}, 2, 48, true}, {[6]int{2, 10, 20, 1, 2, 3}, 5, 48, true}, {[6]int{2, 10, 20, 1, 2, 3}, 30, 40, true}, {[6]int{2, 10, 20, 1, 2, 3}, 3, 4, true},
		{[6]int{2, 10, 20, 1, 2, 3}, 2, 2, true}, {[6]int{2, 10, 20, 1, 2, 3}, 48, 48, true},
		{[6]int{2, 10, 20, 1, 2, 3}, 1, 48, false}, {[6]int{2, 10, 20, 1, 2, 3}, 2, 49, false}, {[6]int{2, 10, 20, 1, 2, 3}, 49, 49, false}, {[6]int{2, 10, 20, 1, 2, 3}, 20, 10, false}, {[6]int{2, 10, 20, 1, 2, 3}, 11, 10, false}, {[6]int{2, 10, 20, 1, 2, 3}, 0, 0, false}, {[6]int{2, 10, 20, 1, 2, 3}, 1, 1, false},
		{[6]int{6, 6, 6, 6, 6, 8}, 6, 48, true}, {[6]int{6, 6, 6, 6, 6, 8}, 5, 48, false},
		// one that is not elastic
		{[6]int{3, 17, 17, 2, 5, 0}, 17, 17, true}, {[6]int{3, 17, 17, 2, 5, 0}, 3, 3, true}, {[6]int{3, 17, 17, 2, 5, 0}, 48, 48, true},
		{[6]int{3, 17, 17, 2, 5, 0}, 16, 17, false}, {[6]int{3, 17, 17, 2, 5, 0}, 17, 18, false}, {[6]int{3, 17, 17, 2, 5, 0}, 3, 48, false}, {[6]int{3, 17, 17, 2, 5, 0}, 2, 2, false}, {[6]int{3, 17, 17, 2, 5, 0}, 49, 49, false},
		// those that may not be, to such as may
		{[6]int{2, 20, 10, 1, 2, 3}, 10, 20, false}, {[6]int{2, 1, 20, 1, 2, 3}, 2, 20, false}, {[6]int{2, 10, 49, 1, 2, 3}, 10, 48, false}, {[6]int{2, 10, 20, 1, 2, 0}, 20, 20, false}, {[6]int{}, 1, 1, false},
	} {
		var want api.Spec
		if c.want {
			want = api.Spec{C: c.l[0], T: c.t, Max: c.high, M: c.l[3], K: c.l[4], E: c.l[5]}
		}
		if s, ok := Stretch(of(c.l), c.t, c.high); s != want || ok != c.want {
			t.Errorf("Stretch(%v, %d, %d): %v %v, not %v", c.l, c.t, c.high, s, ok, c.want)
		}
	}
}

// P5.2: Stretch of all, to all periods near and far, held against the chapter's words.
func TestStretchByItsMeaning(t *testing.T) {
	periods := slices.Concat(far, same(10), same(20))
	for n := range 52 {
		periods = append(periods, n)
	}
	for _, l := range slices.Concat(good, bad) {
		for _, low := range periods {
			for _, high := range periods {
				to := l
				to[1], to[2] = low, high
				may := refMay(l) && refMay(to)
				var want api.Spec
				if may {
					want = of(to)
				}
				if s, ok := Stretch(of(l), low, high); s != want || ok != may {
					t.Fatalf("Stretch(%v, %d, %d): %v %v", l, low, high, s, ok)
				}
			}
		}
	}
}

// P5.3: what is put is got, of all descriptions that there are; each stretched to its own periods stays as it is.
func TestWhatIsPutIsGot(t *testing.T) {
	n := each(func(l [6]int) {
		s := of(l)
		b, ok := Put(s)
		if !ok || len(b) != 6 {
			t.Fatalf("Put(%v): %v %v", l, b, ok)
		}
		if got, ok := Get(b); got != s || !ok {
			t.Fatalf("Get(%v): %v %v", b, got, ok)
		}
		if got, ok := Stretch(s, s.T, s.Max); got != s || !ok {
			t.Fatalf("Stretch(%v) to its own: %v %v", l, got, ok)
		}
	})
	// of C the periods are (49-C)(50-C)/2 pairs, of which 49-C are the same: 21 windows, with E of 1 to 8, and those with E of 0
	want := 0
	for c := 1; c <= 6; c++ {
		want += 21 * (8*(49-c)*(50-c)/2 + 49 - c)
	}
	if n != want {
		t.Errorf("%d were gone through, not %d", n, want)
	}
}

// P5.3: what is got is put as the bytes that it was got of.
func TestWhatIsGotIsPut(t *testing.T) {
	near := []byte{0, 1, 2, 6, 7, 8, 9, 47, 48, 49, 255}
	total := 1
	for range 6 {
		total *= len(near)
	}
	b := make([]byte, 6)
	for n := range total {
		for i := range b {
			b[i] = near[n%len(near)]
			n /= len(near)
		}
		s, ok := Get(b)
		l := [6]int{int(b[0]), int(b[1]), int(b[2]), int(b[3]), int(b[4]), int(b[5])}
		if ok != refMay(l) {
			t.Fatalf("Get(%v): %v", b, ok)
		}
		if !ok {
			continue
		}
		if again, is := Put(s); !slices.Equal(again, b) || !is {
			t.Fatalf("Get(%v): %v, put as %v %v", b, s, again, is)
		}
	}
}
