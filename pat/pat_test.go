package pat

import (
	"math"
	"math/big"
	"slices"
	"testing"
)

const last = 1 << 40

// words holds every word that there is: by k, and then by m.
var words = [][]string{
	{"1"},
	{"10", "11"},
	{"100", "110", "111"},
	{"1000", "1010", "1110", "1111"},
	{"10000", "10100", "11010", "11110", "11111"},
	{"100000", "100100", "101010", "110110", "111110", "111111"},
}

// jobs may all be, as numbers of jobs and as how many: they stand at both ends and between.
var jobs = []int{
	0, 1, 2, 3, 4, 5, 6, 7, 11, 12, 13, 29, 30, 59, 60, 61, 1000, 1<<31 - 1, 1 << 31, 1<<32 + 5,
	last - 7, last - 6, last - 5, last - 4, last - 3, last - 2, last - 1, last,
}

// beyond may none of them be, neither as numbers of jobs nor as how many.
var beyond = []int{math.MinInt, math.MinInt + 1, -last, -6, -2, -1, last + 1, last + 2, last + 6, 2 * last, 1 << 62, math.MaxInt - 1, math.MaxInt}

// wrong may none of them be: m, and k.
var wrong = [][2]int{
	{0, 0}, {0, 1}, {0, 6}, {1, 0}, {2, 1}, {4, 3}, {6, 5}, {7, 6}, {7, 7}, {1, 7}, {6, 7}, {1, 8}, {8, 8},
	{-1, 2}, {-1, -1}, {-2, -1}, {1, -1}, {-6, 6}, {math.MinInt, 1}, {1, math.MinInt}, {math.MinInt, math.MinInt},
	{1, math.MaxInt}, {math.MaxInt, 6}, {math.MaxInt, math.MaxInt}, {math.MinInt, math.MaxInt},
}

// each hands on every m and k that may be.
func each(f func(m, k int)) {
	for k := 1; k <= 6; k++ {
		for m := 1; m <= k; m++ {
			f(m, k)
		}
	}
}

// upTo is n times m, by k, rounded up: by numbers of any length, and without frac.
func upTo(m, k, n int) int {
	p := new(big.Int).Mul(big.NewInt(int64(n)), big.NewInt(int64(m)))
	q, r := p.DivMod(p, big.NewInt(int64(k)), new(big.Int))
	if r.Sign() > 0 {
		q.Add(q, big.NewInt(1))
	}
	return int(q.Int64())
}

func joined(a, b []int) []int { return append(slices.Clone(a), b...) }

// P2.1: which m and k may be, and no others near them.
func TestMay(t *testing.T) {
	for m := -9; m <= 9; m++ {
		for k := -9; k <= 9; k++ {
			if May(m, k) != (m >= 1 && m <= k && k <= 6) {
				t.Errorf("May(%d, %d): %v", m, k, May(m, k))
			}
		}
	}
	for _, w := range wrong {
		if May(w[0], w[1]) {
			t.Errorf("May(%d, %d)", w[0], w[1])
		}
	}
	if !May(1, 1) || !May(1, 6) || !May(6, 6) || May(0, 6) || May(1, 7) || May(6, 5) {
		t.Error("edges")
	}
}

// P2.1: every word, each told in full.
func TestWord(t *testing.T) {
	each(func(m, k int) {
		w := Word(m, k)
		text := words[k-1][m-1]
		if len(w) != k {
			t.Fatalf("Word(%d, %d): %v", m, k, w)
		}
		for j := range w {
			if w[j] != (text[j] == '1') {
				t.Errorf("Word(%d, %d): %v, not %s", m, k, w, text)
			}
		}
	})
	for _, c := range wrong {
		if w := Word(c[0], c[1]); len(w) != 0 {
			t.Errorf("Word(%d, %d): %v", c[0], c[1], w)
		}
	}
}

// P2.1 with R3: what is done to one answer changes no other one.
func TestWordIsTheCallersOwn(t *testing.T) {
	w, x := Word(2, 5), Word(2, 5)
	for j := range w {
		w[j] = !w[j]
	}
	_ = append(w[:2], true, true, true, true)
	want := []bool{true, false, true, false, false}
	if !slices.Equal(x, want) || !slices.Equal(Word(2, 5), want) {
		t.Errorf("%v, %v", x, Word(2, 5))
	}
}

// P2.1: On goes on as the word does, from job 0 to job 2^40.
func TestOnGoesOnAsTheWordDoes(t *testing.T) {
	each(func(m, k int) {
		try := func(j int) {
			if On(m, k, j) != (words[k-1][m-1][j%k] == '1') {
				t.Errorf("On(%d, %d, %d): %v", m, k, j, On(m, k, j))
			}
			if On(m, k, j) != (upTo(m, k, j+1) > upTo(m, k, j)) {
				t.Errorf("On(%d, %d, %d) is not by Ceil: %v", m, k, j, On(m, k, j))
			}
		}
		for j := range 200 {
			try(j)
			try(last - j)
		}
		for _, j := range jobs {
			try(j)
		}
	})
}

// P2.1: no, of m and k that may not be, and of jobs that there are not; the document's own jobs.
func TestOnOfWrongOnes(t *testing.T) {
	each(func(m, k int) {
		for _, j := range beyond {
			if On(m, k, j) {
				t.Errorf("On(%d, %d, %d)", m, k, j)
			}
		}
	})
	for _, w := range wrong {
		for _, j := range joined(jobs, beyond) {
			if On(w[0], w[1], j) {
				t.Errorf("On(%d, %d, %d)", w[0], w[1], j)
			}
		}
	}
	if !On(1, 1, 0) || !On(1, 1, last) || On(1, 1, last+1) || On(1, 1, -1) {
		t.Error("edges")
	}
	for j := range 10 {
		if On(2, 5, j) != (j == 0 || j == 2 || j == 5 || j == 7) {
			t.Errorf("2 of 5: job %d", j)
		}
	}
}

// P2.2: Count and Most at the edges, each told in full.
func TestCountAndMostAsWritten(t *testing.T) {
	for _, c := range []struct{ m, k, from, n, count, most int }{
		{2, 5, 0, 0, 0, 0}, {2, 5, 0, 1, 1, 1}, {2, 5, 1, 1, 0, 1}, {2, 5, 2, 1, 1, 1}, {2, 5, 0, 3, 2, 2}, {2, 5, 3, 2, 0, 1}, {2, 5, 3, 3, 1, 2}, {2, 5, 2, 5, 2, 2}, {2, 5, 0, 8, 4, 4},
		{6, 6, 0, last, last, last}, {6, 6, last, last, last, last}, {1, 1, last, last, last, last}, {1, 1, 0, last, last, last}, {1, 1, last, 1, 1, 1}, {1, 1, last, 0, 0, 0},
		// 2^40 jobs are 183251937962 windows of 6, and 4 jobs
		{1, 6, 0, last, 183251937963, 183251937963}, {5, 6, 0, last, 916259689814, 916259689814}, {1, 6, 3, last, 183251937963, 183251937963}, {1, 6, 1, last, 183251937962, 183251937963},
		{1, 2, 0, last, last / 2, last / 2}, {1, 2, 1, last, last / 2, last / 2}, {1, 2, last, last, last / 2, last / 2},
		// the jobs behind 2^40 are job 4 of 6, 5, 0, ..
		{1, 6, last, 1, 0, 1}, {1, 6, last, 2, 0, 1}, {1, 6, last, 3, 1, 1}, {1, 6, last, 8, 1, 2}, {1, 6, last, 9, 2, 2},
		{1, 6, last - 4, 7, 2, 2}, {1, 6, last - 4, 6, 1, 1},
	} {
		if n := Count(c.m, c.k, c.from, c.n); n != c.count {
			t.Errorf("Count(%d, %d, %d, %d): %d, not %d", c.m, c.k, c.from, c.n, n, c.count)
		}
		if n := Most(c.m, c.k, c.n); n != c.most {
			t.Errorf("Most(%d, %d, %d): %d, not %d", c.m, c.k, c.n, n, c.most)
		}
	}
}

// P2.2: Count by going through the jobs, on both sides of 2^40 too.
func TestCountByItsMeaning(t *testing.T) {
	each(func(m, k int) {
		for _, from := range jobs {
			count := 0
			for n := range 40 {
				if got := Count(m, k, from, n); got != count {
					t.Fatalf("Count(%d, %d, %d, %d): %d, not %d", m, k, from, n, got, count)
				}
				if words[k-1][m-1][(from+n)%k] == '1' {
					count++
				}
			}
		}
	})
}

// P2.2: long stretches, held against whole windows and what is over.
func TestCountOfLongStretches(t *testing.T) {
	each(func(m, k int) {
		for _, from := range jobs {
			for _, n := range jobs {
				want := n / k * m
				for j := range n % k {
					if words[k-1][m-1][(from%k+j)%k] == '1' {
						want++
					}
				}
				if got := Count(m, k, from, n); got != want {
					t.Errorf("Count(%d, %d, %d, %d): %d, not %d", m, k, from, n, got, want)
				}
			}
		}
	})
}

// P2.2: Most is n times m, by k, rounded up.
func TestMostByItsMeaning(t *testing.T) {
	each(func(m, k int) {
		for _, n := range jobs {
			if got := Most(m, k, n); got != upTo(m, k, n) {
				t.Errorf("Most(%d, %d, %d): %d, not %d", m, k, n, got, upTo(m, k, n))
			}
		}
	})
}

// P2.2: none, where one argument or more may not be.
func TestCountAndMostOfWrongOnes(t *testing.T) {
	none := func(m, k, from, n int) {
		if got := Count(m, k, from, n); got != 0 {
			t.Errorf("Count(%d, %d, %d, %d): %d", m, k, from, n, got)
		}
	}
	each(func(m, k int) {
		for _, b := range beyond {
			for _, j := range joined(jobs, beyond) {
				none(m, k, b, j)
				none(m, k, j, b)
			}
			if got := Most(m, k, b); got != 0 {
				t.Errorf("Most(%d, %d, %d): %d", m, k, b, got)
			}
		}
	})
	for _, w := range wrong {
		for _, n := range joined(jobs, beyond) {
			for _, from := range []int{0, 1, last, -1, last + 1, math.MaxInt} {
				none(w[0], w[1], from, n)
			}
			if got := Most(w[0], w[1], n); got != 0 {
				t.Errorf("Most(%d, %d, %d): %d", w[0], w[1], n, got)
			}
		}
	}
}

// P2.3: each k jobs, one behind the other, have just m mandatory ones, wherever they begin; job 0 is one.
func TestOfEachWindowJustM(t *testing.T) {
	each(func(m, k int) {
		if !On(m, k, 0) || !Word(m, k)[0] {
			t.Errorf("%d of %d: job 0", m, k)
		}
		for _, from := range jobs {
			if n := Count(m, k, from, k); n != m {
				t.Errorf("%d of %d: %d from %d on", m, k, n, from)
			}
			if from > last-k {
				continue
			}
			on := 0
			for j := range k {
				if On(m, k, from+j) {
					on++
				}
			}
			if on != m {
				t.Errorf("%d of %d: %d are on from %d on", m, k, on, from)
			}
		}
	})
}

// P2.3: of any n at most Most are mandatory, and from job 0 on just so many.
func TestOfAnyAtMostMost(t *testing.T) {
	each(func(m, k int) {
		for _, n := range joined(jobs, []int{8, 9, 10, 14, 15, 16, 17, 18}) {
			most := Most(m, k, n)
			for _, from := range jobs {
				if c := Count(m, k, from, n); c > most {
					t.Errorf("%d of %d: %d of the %d from %d on, above %d", m, k, c, n, from, most)
				}
			}
			if c := Count(m, k, 0, n); c != most {
				t.Errorf("%d of %d: %d of the first %d, not %d", m, k, c, n, most)
			}
		}
	})
}
