package frac

import (
	"math"
	"math/big"
	"testing"

	"fusee/api"
)

const (
	most  = api.MaxNum
	worth = 1 << 20
)

// numbers may all be; they stand at the edges and on both sides of a word's halves.
var numbers = []int{
	0, 1, 2, 3, 5, 7, 10, 99, 100, 1<<20 - 1, 1 << 20, 1<<31 - 1, 1 << 31, 1<<31 + 1,
	1<<32 - 1, 1 << 32, 1<<32 + 1, 3037000499, 3037000500, 1<<61 - 1, 1 << 61, most / 3, most - 2, most - 1, most,
}

// wrong may none of them be.
var wrong = []int{math.MinInt, math.MinInt + 1, -most, -2, -1, most + 1, most + 2, math.MaxInt - 1, math.MaxInt}

func joined(l ...[]int) []int {
	var all []int
	for _, x := range l {
		all = append(all, x...)
	}
	return all
}

func mayBe(n int) bool { return n >= 0 && n <= most }

func times(a, b int) *big.Int {
	return new(big.Int).Mul(big.NewInt(int64(a)), big.NewInt(int64(b)))
}

// P1.1: ordinary quotients and the edges, each told in full.
func TestQuotientsAsWritten(t *testing.T) {
	for _, c := range []struct {
		a, b, floor, ceil int
	}{
		{7, 2, 3, 4}, {8, 2, 4, 4}, {9, 10, 0, 1}, {0, 1, 0, 0}, {0, most, 0, 0}, {1, 1, 1, 1}, {1, 2, 0, 1},
		{most, 1, most, most}, {most, 2, 1 << 61, 1 << 61}, {most, 3, 1537228672809129301, 1537228672809129302},
		{most, most, 1, 1}, {most, most - 1, 1, 2}, {most - 1, most, 0, 1}, {most - 1, 1, most - 1, most - 1}, {most - 1, 2, 1<<61 - 1, 1 << 61},
	} {
		if n, ok := Floor(c.a, c.b); n != c.floor || !ok {
			t.Errorf("Floor(%d, %d): %d %v, not %d", c.a, c.b, n, ok, c.floor)
		}
		if n, ok := Ceil(c.a, c.b); n != c.ceil || !ok {
			t.Errorf("Ceil(%d, %d): %d %v, not %d", c.a, c.b, n, ok, c.ceil)
		}
	}
}

// P1.1: the greatest and the least, as the chapter words them, and which arguments have none.
func TestQuotientsByTheirMeaning(t *testing.T) {
	all := joined(numbers, wrong)
	for _, a := range all {
		for _, b := range all {
			floor, ok := Floor(a, b)
			ceil, is := Ceil(a, b)
			may := mayBe(a) && mayBe(b) && b > 0
			if ok != may || is != may {
				t.Fatalf("%d by %d: %v and %v, not %v", a, b, ok, is, may)
			}
			if !may {
				if floor != 0 || ceil != 0 {
					t.Errorf("%d by %d: %d and %d where there is none", a, b, floor, ceil)
				}
				continue
			}
			of := big.NewInt(int64(a))
			if times(floor, b).Cmp(of) > 0 || times(floor+1, b).Cmp(of) <= 0 {
				t.Errorf("Floor(%d, %d): %d", a, b, floor)
			}
			if times(ceil, b).Cmp(of) < 0 || ceil > 0 && times(ceil-1, b).Cmp(of) >= 0 {
				t.Errorf("Ceil(%d, %d): %d", a, b, ceil)
			}
		}
	}
}

// P1.2: each order by itself, with products within a word and beyond it.
func TestCmpAsWritten(t *testing.T) {
	for _, c := range []struct {
		a, b, c, d, want int
	}{
		{1, 2, 2, 4, 0}, {1, 2, 2, 3, -1}, {2, 3, 1, 2, 1}, {0, 1, 0, most, 0}, {0, most, 1, most, -1}, {1, most, 0, 1, 1},
		{most, most, most, most, 0}, {most, 1, 1, most, 1}, {1, most, most, 1, -1},
		{most, most - 1, most - 1, most - 2, -1}, {most - 1, most - 2, most, most - 1, 1},
		// the upper words are the same, the lower ones are not
		{most, most, most - 1, most, 1}, {most - 1, most, most, most, -1}, {1 << 61, 3, 1<<61 + 1, 3, -1}, {1 << 40, 1 << 40, 1<<40 + 1, 1 << 40, -1},
		// the upper words' order is not the lower ones'
		{1 << 32, 1<<62 - 1, 1, 1 << 32, 1}, {1, 1 << 32, 1 << 32, 1<<62 - 1, -1},
		// the products' remainders by 2^64 are the same
		{1 << 32, 1, 0, 1 << 32, 1}, {0, 1 << 32, 1 << 32, 1, -1},
		// a product of 2^63 is no negative number
		{1 << 62, 1, 1, 2, 1}, {1, 2, 1 << 62, 1, -1},
	} {
		if n, ok := Cmp(c.a, c.b, c.c, c.d); n != c.want || !ok {
			t.Errorf("Cmp(%d, %d, %d, %d): %d %v, not %d", c.a, c.b, c.c, c.d, n, ok, c.want)
		}
	}
}

// P1.2: held against products of any length.
func TestCmpByItsMeaning(t *testing.T) {
	for _, a := range numbers {
		for _, b := range numbers[1:] {
			for _, c := range numbers {
				for _, d := range numbers[1:] {
					want := times(a, d).Cmp(times(c, b))
					if n, ok := Cmp(a, b, c, d); n != want || !ok {
						t.Fatalf("Cmp(%d, %d, %d, %d): %d %v, not %d", a, b, c, d, n, ok, want)
					}
				}
			}
		}
	}
}

// P1.2: one wrong argument among right ones is enough, at each place, and so are two.
func TestCmpOfWrongOnes(t *testing.T) {
	none := func(l [4]int) {
		if n, ok := Cmp(l[0], l[1], l[2], l[3]); n != 0 || ok {
			t.Errorf("Cmp(%v): %d %v where there is none", l, n, ok)
		}
	}
	right := [][4]int{{1, 1, 1, 1}, {3, 1, 1, 2}, {0, 5, 7, most}, {most, most, most, most}}
	for _, l := range right {
		for place := range l {
			bad := wrong
			if place%2 == 1 {
				bad = joined(wrong, []int{0})
			}
			for _, w := range bad {
				one := l
				one[place] = w
				none(one)
				one[(place+1)%4] = w
				none(one)
			}
		}
	}
}

// P1.3: roots at the edges, each told in full.
func TestRootAsWritten(t *testing.T) {
	for _, c := range [][2]int{
		{0, 0}, {1, 1}, {2, 1}, {3, 1}, {4, 2}, {8, 2}, {9, 3}, {99, 9}, {100, 10},
		{most, 1 << 31}, {most - 1, 1<<31 - 1}, {(1<<31 - 1) * (1<<31 - 1), 1<<31 - 1}, {(1<<31-1)*(1<<31-1) - 1, 1<<31 - 2},
	} {
		if n, ok := Root(c[0]); n != c[1] || !ok {
			t.Errorf("Root(%d): %d %v, not %d", c[0], n, ok, c[1])
		}
	}
	for _, n := range wrong {
		if r, ok := Root(n); r != 0 || ok {
			t.Errorf("Root(%d): %d %v where there is none", n, r, ok)
		}
	}
}

// P1.3: the greatest one, for small numbers and on both sides of squares.
func TestRootByItsMeaning(t *testing.T) {
	try := func(n int) {
		r, ok := Root(n)
		of := big.NewInt(int64(n))
		if !ok || r < 0 || times(r, r).Cmp(of) > 0 || times(r+1, r+1).Cmp(of) <= 0 {
			t.Errorf("Root(%d): %d %v", n, r, ok)
		}
	}
	for n := range 3000 {
		try(n)
	}
	for _, n := range numbers {
		try(n)
	}
	for r := 2; r <= 1<<31; r += r/3 + 1 {
		try(r*r - 1)
		try(r * r)
		if r < 1<<31 {
			try(r*r + 1)
		}
	}
}

// P1.3: what beats, and what just does not.
func TestBeatsAsWritten(t *testing.T) {
	for _, c := range []struct {
		v, s, k int
		want    bool
	}{
		{5, 2, 2, true}, {4, 2, 2, false}, {2, 1, 1, false}, {3, 1, 1, true}, {6, 2, 4, false}, {7, 2, 4, true}, {10, 3, 4, true}, {9, 3, 4, false},
		{0, 0, 0, false}, {0, 0, worth, false}, {1, 0, 0, true}, {1, 0, worth, true}, {1, 1, 0, false}, {2, 1, 0, true},
		// below s by as much as would be enough above it
		{0, 1, 0, false}, {0, 3, 0, false}, {1, 5, 1, false}, {0, worth, 0, false},
		{worth, 0, worth, true}, {worth, 1, worth, true}, {worth, 1023, worth, true}, {worth, 1024, worth, false}, {worth, worth, 0, false}, {worth, worth - 1, 0, true},
		{1026, 1, worth, true}, {1025, 1, worth, false}, {worth, 1 << 19, 1, false}, {worth, 1<<19 - 1, 1, true}, {worth, worth, worth, false},
	} {
		if Beats(c.v, c.s, c.k) != c.want {
			t.Errorf("Beats(%d, %d, %d): not %v", c.v, c.s, c.k, c.want)
		}
	}
}

// P1.3: held against squares of any length, and no where one is out of its bounds.
func TestBeatsByItsMeaning(t *testing.T) {
	all := joined([]int{0, 1, 2, 3, 4, 5, 6, 7, 8, 9, 50, 1000, 1023, 1024, 1025, 1026, 1<<19 - 1, 1 << 19, 1<<19 + 1, worth - 1, worth},
		[]int{worth + 1, worth + 2, 1 << 21, 1 << 32, most}, wrong)
	may := func(n int) bool { return n >= 0 && n <= worth }
	for _, v := range all {
		for _, s := range all {
			for _, k := range all {
				want := may(v) && may(s) && may(k) && v > s &&
					times(v-s, v-s).Cmp(new(big.Int).Mul(times(s, s), big.NewInt(int64(k)))) > 0
				if Beats(v, s, k) != want {
					t.Fatalf("Beats(%d, %d, %d): not %v", v, s, k, want)
				}
			}
		}
	}
}

// P1.4: a Ceil is its Floor, or one more: the same just where nothing is over.
func TestCeilIsFloorOrOneMore(t *testing.T) {
	for _, a := range numbers {
		for _, b := range numbers[1:] {
			floor, _ := Floor(a, b)
			ceil, _ := Ceil(a, b)
			over := 0
			if a%b != 0 {
				over = 1
			}
			if ceil != floor+over {
				t.Errorf("%d by %d: %d and %d", a, b, floor, ceil)
			}
		}
	}
}

// P1.4: what is more than something more is more, by Cmp and by Beats.
func TestMoreThanMoreIsMore(t *testing.T) {
	var ratios []ratio
	for _, a := range []int{0, 1, 2, 1 << 32, most - 1, most} {
		for _, b := range []int{1, 2, 3, 1 << 32, most - 1, most} {
			ratios = append(ratios, ratio{a, b})
		}
	}
	more := func(x, y ratio) bool {
		n, ok := Cmp(x.a, x.b, y.a, y.b)
		back, is := Cmp(y.a, y.b, x.a, x.b)
		if !ok || !is || n != -back {
			t.Fatalf("%v and %v: %d one way, %d the other", x, y, n, back)
		}
		return n > 0
	}
	for _, x := range ratios {
		for _, y := range ratios {
			for _, z := range ratios {
				if more(x, y) && more(y, z) && !more(x, z) {
					t.Errorf("%v, %v, %v", x, y, z)
				}
			}
		}
	}
	values := []int{0, 1, 2, 3, 5, 9, 27, 1000, 1024, 1025, 1 << 19, worth - 1, worth}
	for _, k := range []int{0, 1, 2, 4, 1000, worth} {
		for _, x := range values {
			for _, y := range values {
				for _, z := range values {
					if Beats(y, z, k) && (x >= y || Beats(x, y, k)) && !Beats(x, z, k) {
						t.Errorf("%d, %d, %d by %d", x, y, z, k)
					}
				}
			}
		}
	}
}
