package wire

import (
	"math"
	"slices"
	"testing"

	"fusee/api"
	"fusee/spec"
)

// The limits and kinds are told by their numbers, so that a test fails if one of them is taken for another.
const (
	join   = 0
	rate   = 1
	leave  = 2
	submit = 3
	tick   = 4

	oneByte  = 255
	twoBytes = 65535
	longest  = 20
	many     = 4

	clock = 1099511627776
)

// names are all numbers of what is asked, but for those of D.
var names = []string{"Kind", "ID", "S.C", "S.T", "S.Max", "S.M", "S.K", "S.E", "T", "Max", "Within", "C", "V"}

// has are those that each kind has, beside its Kind; Tick has D alone.
var has = [][]string{
	{"S.C", "S.T", "S.Max", "S.M", "S.K", "S.E"},
	{"ID", "T", "Max"},
	{"ID"},
	{"Within", "C", "V"},
	{},
}

// edges are 0, and what one and two bytes hold at most, each with those beside it, and what else could be taken for a limit.
var edges = []int{-1, 0, 1, 2, 3, 4, 5, 6, 7, 8, 9, 19, 20, 21, 47, 48, 49, 127, 128, 254, 255, 256, 257, 511, 512, 999, 1000, 1001, 32767, 32768, 65279, 65280, 65534, 65535, 65536, 65537}

// far are beyond all of them; the last bytes of many are such as fit.
var far = []int{
	math.MinInt, math.MinInt + 1, math.MinInt + 5, math.MinInt + 256, -1 << 62, -1 << 40, -1 << 32, -1<<32 + 7, -65536, -65535, -257, -256, -255, -128, -20, -4, -2,
	65541, 65791, 1 << 17, 1 << 24, 1<<31 - 1, 1 << 31, 1 << 32, 1<<32 + 5, 1 << 40, 1<<48 + 1, 1 << 62, 1<<62 + 20, math.MaxInt - 255, math.MaxInt - 1, math.MaxInt,
}

// few are some of all, for two fields at a time.
var few = []int{math.MinInt, -1, 0, 1, 4, 5, 255, 256, 65535, 65536, math.MaxInt}

// asked may all be: they stand at the edges and between.
func asked() []api.Op {
	return []api.Op{
		{Kind: join}, {Kind: join, S: api.Spec{C: 2, T: 10, Max: 20, M: 1, K: 2, E: 3}}, {Kind: join, S: api.Spec{C: 255, T: 255, Max: 255, M: 255, K: 255, E: 255}}, {Kind: join, S: api.Spec{C: 1, T: 2, Max: 3, M: 4, K: 5, E: 6}, D: []int{}},
		{Kind: rate}, {Kind: rate, ID: 258, T: 3, Max: 4}, {Kind: rate, ID: 65535, T: 255, Max: 255}, {Kind: rate, ID: 256, T: 4, Max: 3, D: []int{}},
		{Kind: leave}, {Kind: leave, ID: 258}, {Kind: leave, ID: 65535}, {Kind: leave, ID: 255, D: []int{}},
		{Kind: submit}, {Kind: submit, Within: 7, C: 5, V: 1000}, {Kind: submit, Within: 255, C: 255, V: 65535}, {Kind: submit, Within: 1, C: 2, V: 256, D: []int{}},
		{Kind: tick}, {Kind: tick, D: []int{}}, {Kind: tick, D: []int{1}}, {Kind: tick, D: []int{20, 1}}, {Kind: tick, D: []int{3, 2, 1}}, {Kind: tick, D: []int{1, 20, 3, 4}}, {Kind: tick, D: []int{20, 20, 20, 20}},
	}
}

// lists are D's, such as may be and such as may not; the first ones have no numbers.
var lists = [][]int{
	nil, {}, {1}, {20}, {0}, {21}, {-1}, {2}, {19}, {255}, {256}, {257}, {261}, {-255}, {math.MaxInt}, {math.MinInt}, {math.MinInt + 1}, {1 << 32}, {1<<32 + 1},
	{1, 20}, {20, 1}, {0, 1}, {1, 0}, {21, 20}, {20, 21}, {1, 2, 3}, {1, 2, 21}, {1, 21, 3}, {0, 2, 3},
	{1, 20, 3, 4}, {20, 20, 20, 20}, {1, 1, 1, 1}, {1, 1, 1, 0}, {1, 1, 0, 1}, {0, 1, 1, 1}, {20, 20, 20, 21}, {21, 20, 20, 20}, {5, 5, 5, -5}, {5, 5, 5, 261},
	{1, 1, 1, 1, 1}, {20, 20, 20, 20, 20}, {1, 2, 3, 4, 0}, {0, 0, 0, 0, 0}, {1, 2, 3, 4, 5, 6}, {0}, {0, 0}, {0, 0, 0}, {0, 0, 0, 0},
}

// field is where a number of what is asked stands.
func field(o *api.Op, name string) *int {
	switch name {
	case "Kind":
		return &o.Kind
	case "ID":
		return &o.ID
	case "S.C":
		return &o.S.C
	case "S.T":
		return &o.S.T
	case "S.Max":
		return &o.S.Max
	case "S.M":
		return &o.S.M
	case "S.K":
		return &o.S.K
	case "S.E":
		return &o.S.E
	case "T":
		return &o.T
	case "Max":
		return &o.Max
	case "Within":
		return &o.Within
	case "C":
		return &o.C
	case "V":
		return &o.V
	}
	panic(name)
}

// state is where drawing stands; each test that draws begins anew.
type state uint64

func (s *state) draw(low, high int) int {
	*s = *s*6364136223846793005 + 1442695040888963407
	return low + int(*s>>33)%(high-low+1)
}

// ask is something drawn that may be asked.
func (s *state) ask() api.Op {
	o := api.Op{Kind: s.draw(join, tick)}
	for _, name := range has[o.Kind] {
		*field(&o, name) = s.draw(0, refTop(name))
	}
	if o.Kind == tick {
		for range s.draw(0, many) {
			o.D = append(o.D, s.draw(1, longest))
		}
	}
	return o
}

// The references below say by the chapter's words what is so, number by number.

// refTop is the greatest number that may be of those that a kind has.
func refTop(name string) int {
	if name == "ID" || name == "V" {
		return twoBytes
	}
	return oneByte
}

func refMay(o api.Op) bool {
	if o.Kind < join || o.Kind > tick {
		return false
	}
	for _, name := range names[1:] {
		n := *field(&o, name)
		if n < 0 || n > refTop(name) || n != 0 && !slices.Contains(has[o.Kind], name) {
			return false
		}
	}
	if o.Kind != tick {
		return len(o.D) == 0
	}
	for _, d := range o.D {
		if d < 1 || d > longest {
			return false
		}
	}
	return len(o.D) <= many
}

// refPut are the bytes of what may be.
func refPut(o api.Op) []byte {
	switch o.Kind {
	case join:
		return []byte{0, byte(o.S.C), byte(o.S.T), byte(o.S.Max), byte(o.S.M), byte(o.S.K), byte(o.S.E)}
	case rate:
		return []byte{1, byte(o.ID / 256), byte(o.ID % 256), byte(o.T), byte(o.Max)}
	case leave:
		return []byte{2, byte(o.ID / 256), byte(o.ID % 256)}
	case submit:
		return []byte{3, byte(o.Within), byte(o.C), byte(o.V / 256), byte(o.V % 256)}
	}
	b := []byte{4, byte(len(o.D))}
	for _, d := range o.D {
		b = append(b, byte(d))
	}
	return b
}

func refGet(b []byte) (api.Op, bool) {
	at := func(i int) int { return int(b[i]) }
	switch {
	case len(b) == 7 && b[0] == 0:
		return api.Op{Kind: join, S: api.Spec{C: at(1), T: at(2), Max: at(3), M: at(4), K: at(5), E: at(6)}}, true
	case len(b) == 5 && b[0] == 1:
		return api.Op{Kind: rate, ID: 256*at(1) + at(2), T: at(3), Max: at(4)}, true
	case len(b) == 3 && b[0] == 2:
		return api.Op{Kind: leave, ID: 256*at(1) + at(2)}, true
	case len(b) == 5 && b[0] == 3:
		return api.Op{Kind: submit, Within: at(1), C: at(2), V: 256*at(3) + at(4)}, true
	case len(b) >= 2 && len(b) <= 6 && b[0] == 4 && at(1) == len(b)-2:
		o := api.Op{Kind: tick}
		for i := 2; i < len(b); i++ {
			if b[i] == 0 || b[i] > longest {
				return api.Op{}, false
			}
			o.D = append(o.D, at(i))
		}
		return o, true
	}
	return api.Op{}, false
}

// refFlat are all parts as one list.
func refFlat(o api.Op) []int {
	var l []int
	for _, name := range names {
		l = append(l, *field(&o, name))
	}
	return append(l, o.D...)
}

func refSame(a, b api.Op) bool {
	return slices.Equal(refFlat(a), refFlat(b))
}

func refAnswerMay(r api.Reply) bool {
	return r.E >= 0 && r.E <= 8 && r.N >= 0 && r.N <= clock
}

// refAnswer are the bytes of an answer that may be.
func refAnswer(r api.Reply) []byte {
	b := make([]byte, 7)
	n := r.N
	for i := 6; i > 0; i-- {
		b[i] = byte(n % 256)
		n /= 256
	}
	b[0] = byte(r.E)
	return b
}

func refAnswered(b []byte) (api.Reply, bool) {
	if len(b) != 7 {
		return api.Reply{}, false
	}
	r := api.Reply{E: api.Errno(b[0])}
	for i, weight := range []int{1099511627776, 4294967296, 16777216, 65536, 256, 1} {
		r.N += weight * int(b[1+i])
	}
	if !refAnswerMay(r) {
		return api.Reply{}, false
	}
	return r, true
}

// roomy are bytes with room behind them, filled with a mark: a call that appends to what it was handed writes there.
func roomy(b []byte) []byte {
	l := slices.Concat(b, []byte{0xa5, 0xa5, 0xa5, 0xa5})
	return l[:len(b)]
}

// long is what is asked with room behind D, filled with a mark.
func long(o api.Op) api.Op {
	if o.D != nil {
		o.D = slices.Concat(o.D, []int{-77, -77, -77, -77})[:len(o.D)]
	}
	return o
}

// holds fails if a call on what is asked tells other than the chapter, or changes it.
func holds(t *testing.T, o api.Op) {
	t.Helper()
	in := long(o)
	may := May(in)
	b, ok := Put(in)
	if !slices.Equal(in.D[:cap(in.D)], long(o).D[:cap(in.D)]) {
		t.Fatalf("%v: its D was changed", o)
	}
	if !refMay(o) {
		if may || ok || len(b) != 0 {
			t.Fatalf("%v may not be: %v, %v %v", o, may, b, ok)
		}
		return
	}
	if !may || !ok || !slices.Equal(b, refPut(o)) {
		t.Fatalf("%v may be: %v, %v %v", o, may, b, ok)
	}
	if back, ok := Get(b); !ok || !refSame(back, o) || !Same(back, o) || !Same(o, back) {
		t.Fatalf("%v was put as %v, and got as %v %v", o, b, back, ok)
	}
}

// gets fails if bytes are taken for other than the chapter tells, or changed.
func gets(t *testing.T, b []byte) bool {
	t.Helper()
	in := roomy(b)
	o, ok := Get(in)
	if !slices.Equal(in[:cap(in)], roomy(b)[:cap(in)]) {
		t.Fatalf("%v were changed: %v", b, in[:cap(in)])
	}
	if want, may := refGet(b); ok != may || !refSame(o, want) {
		t.Fatalf("Get(%v): %v %v, not %v %v", b, o, ok, want, may)
	}
	if !ok {
		return false
	}
	if again, ok := Put(o); !ok || !slices.Equal(again, b) || !May(o) {
		t.Fatalf("%v were got as %v, and put as %v %v", b, o, again, ok)
	}
	return true
}

// answers fails if an answer is put other than the chapter tells.
func answers(t *testing.T, r api.Reply) {
	t.Helper()
	b, ok := Answer(r)
	if !refAnswerMay(r) {
		if ok || len(b) != 0 {
			t.Fatalf("%v may not be: %v %v", r, b, ok)
		}
		return
	}
	if !ok || !slices.Equal(b, refAnswer(r)) {
		t.Fatalf("%v may be: %v %v", r, b, ok)
	}
	if back, ok := Answered(b); !ok || back != r {
		t.Fatalf("%v was put as %v, and got as %v %v", r, b, back, ok)
	}
}

// answered fails if bytes are taken for another answer than the chapter tells, or changed.
func answered(t *testing.T, b []byte) bool {
	t.Helper()
	in := roomy(b)
	r, ok := Answered(in)
	if !slices.Equal(in[:cap(in)], roomy(b)[:cap(in)]) {
		t.Fatalf("%v were changed: %v", b, in[:cap(in)])
	}
	if want, may := refAnswered(b); ok != may || r != want {
		t.Fatalf("Answered(%v): %v %v, not %v %v", b, r, ok, want, may)
	}
	if !ok {
		return false
	}
	if again, ok := Answer(r); !ok || !slices.Equal(again, b) {
		t.Fatalf("%v were got as %v, and put as %v %v", b, r, again, ok)
	}
	return true
}

// P16.1: the chapter's example, and one of each other kind, told in full.
func TestExample(t *testing.T) {
	for _, c := range []struct {
		o api.Op
		b []byte
	}{
		{api.Op{Kind: api.Leave, ID: 258}, []byte{2, 1, 2}},
		{api.Op{Kind: api.Join, S: api.Spec{C: 2, T: 10, Max: 20, M: 1, K: 3, E: 4}}, []byte{0, 2, 10, 20, 1, 3, 4}},
		{api.Op{Kind: api.Rate, ID: 515, T: 5, Max: 48}, []byte{1, 2, 3, 5, 48}},
		{api.Op{Kind: api.Submit, Within: 9, C: 4, V: 1000}, []byte{3, 9, 4, 3, 232}},
		{api.Op{Kind: api.Tick}, []byte{4, 0}},
		{api.Op{Kind: api.Tick, D: []int{7, 1, 20}}, []byte{4, 3, 7, 1, 20}},
	} {
		if !May(c.o) {
			t.Errorf("May(%v)", c.o)
		}
		if b, ok := Put(c.o); !ok || !slices.Equal(b, c.b) {
			t.Errorf("Put(%v): %v %v", c.o, b, ok)
		}
		o, ok := Get(c.b)
		if !ok || o.Kind != c.o.Kind || o.ID != c.o.ID || o.S != c.o.S || o.T != c.o.T || o.Max != c.o.Max || o.Within != c.o.Within || o.C != c.o.C || o.V != c.o.V || !slices.Equal(o.D, c.o.D) {
			t.Errorf("Get(%v): %v %v", c.b, o, ok)
		}
		if !Same(o, c.o) {
			t.Errorf("Same(%v, %v)", o, c.o)
		}
	}
}

// P16.1: Kind is from 0 to 4, whatever else there is.
func TestKind(t *testing.T) {
	for _, o := range asked() {
		holds(t, o)
		for _, kind := range slices.Concat(edges, far) {
			holds(t, api.Op{Kind: kind})
			other := o
			other.Kind = kind
			holds(t, other)
		}
	}
	for kind := -300; kind <= 300; kind++ {
		if got, want := May(api.Op{Kind: kind}), kind >= 0 && kind <= 4; got != want {
			t.Errorf("May of kind %d: %v", kind, got)
		}
	}
}

// P16.1: each number by itself, at all edges and far beyond: one that the kind has fits up to its limit, and any other is zero.
func TestEachNumber(t *testing.T) {
	for _, o := range asked() {
		for _, name := range names {
			for _, n := range slices.Concat(edges, far) {
				x := o
				*field(&x, name) = n
				holds(t, x)
			}
		}
	}
}

// P16.1: each number of each kind at the edges that the chapter names, told one by one.
func TestEdgesOfNumbers(t *testing.T) {
	for _, c := range []struct {
		kind int
		name string
		most int
	}{
		{0, "S.C", 255}, {0, "S.T", 255}, {0, "S.Max", 255}, {0, "S.M", 255}, {0, "S.K", 255}, {0, "S.E", 255},
		{1, "ID", 65535}, {1, "T", 255}, {1, "Max", 255},
		{2, "ID", 65535},
		{3, "Within", 255}, {3, "C", 255}, {3, "V", 65535},
	} {
		for _, n := range []int{-1, 0, 1, 254, 255, 256, 65535, 65536} {
			o := api.Op{Kind: c.kind}
			*field(&o, c.name) = n
			want := n >= 0 && n <= c.most
			if got := May(o); got != want {
				t.Errorf("May of kind %d with %s of %d: %v", c.kind, c.name, n, got)
			}
			if b, ok := Put(o); ok != want || !want && len(b) != 0 {
				t.Errorf("Put of kind %d with %s of %d: %v %v", c.kind, c.name, n, b, ok)
			}
		}
	}
}

// P16.1: two numbers at a time: neither mends the other, and both stand where they belong.
func TestTwoNumbers(t *testing.T) {
	for _, o := range asked() {
		for i, a := range names {
			for _, b := range names[:i] {
				for _, n := range few {
					for _, m := range few {
						x := o
						*field(&x, a), *field(&x, b) = n, m
						holds(t, x)
					}
				}
			}
		}
	}
}

// P16.1: D of Tick, and of all other kinds, which have none.
func TestLists(t *testing.T) {
	for _, l := range lists {
		for kind := -1; kind <= 6; kind++ {
			holds(t, api.Op{Kind: kind, D: l})
		}
		for _, o := range asked() {
			o.D = l
			holds(t, o)
		}
	}
	for n := range 7 {
		for _, c := range []struct {
			d    int
			fits bool
		}{{0, false}, {1, true}, {20, true}, {21, false}, {-1, false}} {
			o := api.Op{Kind: tick, D: slices.Repeat([]int{c.d}, n)}
			want := n == 0 || n <= 4 && c.fits
			b, ok := Put(o)
			if May(o) != want || ok != want {
				t.Errorf("%d of %d: %v, %v %v", n, c.d, May(o), b, ok)
			}
			for at := range n {
				// One alone of them is other than the rest.
				l := slices.Repeat([]int{5}, n)
				l[at] = c.d
				if May(api.Op{Kind: tick, D: l}) != (n <= 4 && c.fits) {
					t.Errorf("May of %v", l)
				}
				holds(t, api.Op{Kind: tick, D: l})
			}
		}
	}
	for n := range 600 {
		if got := May(api.Op{Kind: tick, D: slices.Repeat([]int{1}, n)}); got != (n <= 4) {
			t.Errorf("May of %d numbers: %v", n, got)
		}
	}
	for _, d := range slices.Concat(edges, far) {
		for _, l := range [][]int{{d}, {d, 2}, {2, d}, {2, 3, 4, d}, {2, d, 4, 5}} {
			holds(t, api.Op{Kind: tick, D: l})
		}
	}
}

// P16.1: each kind with each part that it has not, with D empty and not empty.
func TestWhatItHasNot(t *testing.T) {
	for _, o := range asked() {
		for _, name := range names[1:] {
			if slices.Contains(has[o.Kind], name) {
				continue
			}
			for _, n := range []int{1, -1, 2, 20, 255, 256, math.MaxInt, math.MinInt} {
				x := o
				*field(&x, name) = n
				if b, ok := Put(x); May(x) || ok || len(b) != 0 {
					t.Errorf("%v with %s of %d: %v %v", o, name, n, b, ok)
				}
			}
		}
		if o.Kind == tick {
			continue
		}
		for _, l := range [][]int{nil, {}, make([]int, 0, 9)} {
			o.D = l
			if b, ok := Put(o); !May(o) || !ok || !slices.Equal(b, refPut(o)) {
				t.Errorf("%v, D empty: %v %v", o, b, ok)
			}
		}
		for _, l := range [][]int{{0}, {1}, {20}, {1, 2, 3, 4}, {0, 0, 0, 0, 0}} {
			o.D = l
			if b, ok := Put(o); May(o) || ok || len(b) != 0 {
				t.Errorf("%v, D not empty: %v %v", o, b, ok)
			}
		}
	}
}

// P16.1: a task's description is put as layer 5 puts it, also one that may not be, which that does not put.
func TestDescriptions(t *testing.T) {
	for _, s := range []api.Spec{{C: 2, T: 10, Max: 20, M: 1, K: 2, E: 3}, {C: 1, T: 1, Max: 1, M: 1, K: 1}, {C: 6, T: 48, Max: 48, M: 6, K: 6, E: 8}, {C: 3, T: 17, Max: 18, M: 4, K: 5, E: 7}} {
		six, may := spec.Put(s)
		b, ok := Put(api.Op{Kind: join, S: s})
		if !may || !ok || !slices.Equal(b, append([]byte{0}, six...)) {
			t.Errorf("Put(%v): %v %v", s, b, ok)
		}
	}
	for _, s := range []api.Spec{{}, {C: 7, T: 10, Max: 20, M: 1, K: 2, E: 3}, {C: 2, T: 10, Max: 20, M: 3, K: 2, E: 3}, {C: 2, T: 10, Max: 20, M: 1, K: 2}, {C: 255, T: 254, Max: 253, M: 252, K: 251, E: 250}} {
		if spec.May(s) || !May(api.Op{Kind: join, S: s}) {
			t.Errorf("May(%v)", s)
		}
		holds(t, api.Op{Kind: join, S: s})
	}
}

// P16.1: bytes of each kind with one fewer, with one more, with each beginning of them, and with none.
func TestOtherLengths(t *testing.T) {
	for _, o := range asked() {
		b := refPut(o)
		if !gets(t, b) {
			t.Errorf("%v are nobody's", b)
		}
		for n := range b {
			if gets(t, b[:n]) {
				t.Errorf("%v are somebody's", b[:n])
			}
		}
		for _, more := range []byte{0, 1, 2, 5, 20, 255} {
			if gets(t, append(slices.Clone(b), more)) {
				t.Errorf("%v and %d are somebody's", b, more)
			}
			gets(t, append([]byte{more}, b...))
			gets(t, append(slices.Clone(b), more, more))
		}
		gets(t, b[1:])
		gets(t, slices.Concat(b, b))
	}
	for _, b := range [][]byte{nil, {}, make([]byte, 0, 9)} {
		if gets(t, b) {
			t.Error("none are somebody's")
		}
	}
}

// P16.1: each byte of each kind at all its values, Kind among them.
func TestEachByte(t *testing.T) {
	for _, o := range asked() {
		for at := range refPut(o) {
			for x := range 256 {
				b := refPut(o)
				b[at] = byte(x)
				gets(t, b)
			}
		}
	}
	for _, kind := range []byte{5, 6, 7, 8, 127, 128, 254, 255} {
		for n := range 9 {
			if b := append([]byte{kind}, make([]byte, n)...); gets(t, b) {
				t.Errorf("%v are somebody's", b)
			}
			if b := append([]byte{kind}, slices.Repeat([]byte{1}, n)...); gets(t, b) {
				t.Errorf("%v are somebody's", b)
			}
		}
	}
}

// P16.1: how many of D, and its numbers, at all values, with more and fewer that follow.
func TestBytesOfLists(t *testing.T) {
	for n := range 256 {
		for follow := range 12 {
			for _, x := range []byte{0, 1, 20, 21, 255} {
				b := append([]byte{4, byte(n)}, slices.Repeat([]byte{x}, follow)...)
				want := n <= 4 && n == follow && (n == 0 || x == 1 || x == 20)
				if gets(t, b) != want {
					t.Errorf("%v: not %v", b, want)
				}
			}
		}
		for _, follow := range []int{n - 1, n, n + 1, 255} {
			gets(t, append([]byte{4, byte(n)}, slices.Repeat([]byte{1}, max(follow, 0))...))
		}
	}
	for _, b := range [][]byte{{4, 1, 0}, {4, 1, 21}, {4, 1, 255}, {4, 2, 1, 21}, {4, 2, 0, 1}, {4, 4, 1, 2, 3, 0}, {4, 4, 21, 2, 3, 4}, {4, 4, 1, 2, 3}, {4, 5, 1, 2, 3, 4}, {4, 5, 1, 2, 3, 4, 5}, {4, 255, 1}, {4, 4, 1, 2, 3, 4, 5}, {4, 3, 1, 2, 3, 4}, {4, 0, 1}, {4}} {
		if gets(t, b) {
			t.Errorf("%v are somebody's", b)
		}
	}
}

// P16.1: Same of two that differ in one part alone, and of those that differ in none.
func TestSame(t *testing.T) {
	all := slices.Concat(asked(), []api.Op{{Kind: -1}, {Kind: 5, ID: -7, S: api.Spec{C: 300, E: -1}, T: 9, Max: 8, Within: 7, C: 6, V: 5, D: []int{0, 99, 3, 3, 3, 3}}, {Kind: math.MinInt, V: math.MaxInt, D: []int{math.MinInt}}})
	for _, o := range all {
		same := o
		same.D = slices.Clone(o.D)
		if !Same(o, o) || !Same(o, same) || !Same(same, o) {
			t.Errorf("%v is not the same", o)
		}
		for _, name := range names {
			for _, by := range []int{1, -1, 2, 256, 65536, 1 << 32, 1 << 62, math.MinInt} {
				x := same
				*field(&x, name) += by
				if Same(o, x) || Same(x, o) {
					t.Errorf("%v and %v are the same", o, x)
				}
			}
		}
		for i := range o.D {
			for _, by := range []int{1, -1, 256, 1 << 32, math.MinInt} {
				x := same
				x.D = slices.Clone(o.D)
				x.D[i] += by
				if Same(o, x) || Same(x, o) {
					t.Errorf("%v and %v are the same", o, x)
				}
			}
			for _, l := range [][]int{slices.Delete(slices.Clone(o.D), i, i+1), slices.Insert(slices.Clone(o.D), i, 1)} {
				x := same
				x.D = l
				if Same(o, x) || Same(x, o) {
					t.Errorf("%v and %v are the same", o, x)
				}
			}
		}
		for _, other := range all {
			if got, want := Same(o, other), refSame(o, other); got != want {
				t.Errorf("Same(%v, %v): %v", o, other, got)
			}
		}
	}
}

// P16.1: Same goes by D's order and its length, and takes nil and empty for the same.
func TestSameLists(t *testing.T) {
	for _, kind := range []int{tick, join, -1, 9} {
		for i, a := range lists {
			for j, b := range lists {
				x, y := api.Op{Kind: kind, D: a}, api.Op{Kind: kind, D: b}
				if got := Same(x, y); got != slices.Equal(a, b) {
					t.Errorf("Same(%v, %v), %d and %d: %v", x, y, i, j, got)
				}
			}
		}
		for _, c := range []struct {
			a, b []int
			same bool
		}{
			{nil, []int{}, true}, {[]int{}, nil, true}, {nil, nil, true}, {nil, []int{0}, false}, {[]int{0}, nil, false}, {[]int{}, []int{1}, false},
			{[]int{1, 2}, []int{2, 1}, false}, {[]int{1, 2, 3}, []int{1, 3, 2}, false}, {[]int{1, 2}, []int{1, 2}, true}, {[]int{1, 2}, []int{1, 2, 0}, false}, {[]int{1, 2, 0}, []int{1, 2}, false}, {[]int{1, 1}, []int{1}, false},
		} {
			if got := Same(api.Op{Kind: kind, D: c.a}, api.Op{Kind: kind, D: c.b}); got != c.same {
				t.Errorf("Same(%v, %v): %v", c.a, c.b, got)
			}
		}
	}
}

// P16.1: Same of drawn ones that differ in up to two numbers, taken from just a few.
func TestSameDrawn(t *testing.T) {
	s := state(1)
	for range 200000 {
		a := s.ask()
		b := a
		b.D = slices.Clone(a.D)
		for range s.draw(0, 2) {
			*field(&b, names[s.draw(0, len(names)-1)]) = s.draw(0, 1)
		}
		if len(b.D) > 0 && s.draw(0, 1) == 0 {
			b.D[s.draw(0, len(b.D)-1)] = s.draw(1, 3)
		}
		if got, want := Same(a, b), refSame(a, b); got != want {
			t.Fatalf("Same(%v, %v): %v", a, b, got)
		}
	}
}

// P16.2: answers told in full.
func TestAnswers(t *testing.T) {
	for _, c := range []struct {
		r api.Reply
		b []byte
	}{
		{api.Reply{}, []byte{0, 0, 0, 0, 0, 0, 0}},
		{api.Reply{E: api.ErrBusy, N: 258}, []byte{4, 0, 0, 0, 0, 1, 2}},
		{api.Reply{E: api.ErrClock}, []byte{8, 0, 0, 0, 0, 0, 0}},
		{api.Reply{E: api.ErrArg, N: 0x10203040}, []byte{1, 0, 0, 0x10, 0x20, 0x30, 0x40}},
		{api.Reply{N: 0xa0b0c0d0e0}, []byte{0, 0, 0xa0, 0xb0, 0xc0, 0xd0, 0xe0}},
		{api.Reply{N: clock - 1}, []byte{0, 0, 255, 255, 255, 255, 255}},
		{api.Reply{E: api.ErrForm, N: clock}, []byte{7, 1, 0, 0, 0, 0, 0}},
	} {
		if b, ok := Answer(c.r); !ok || !slices.Equal(b, c.b) {
			t.Errorf("Answer(%v): %v %v", c.r, b, ok)
		}
		if r, ok := Answered(c.b); !ok || r != c.r {
			t.Errorf("Answered(%v): %v %v", c.b, r, ok)
		}
	}
	for _, r := range []api.Reply{{E: -1}, {E: 9}, {N: -1}, {N: clock + 1}, {E: 8, N: clock + 1}, {E: 9, N: clock}, {E: -1, N: -1}} {
		if b, ok := Answer(r); ok || len(b) != 0 {
			t.Errorf("Answer(%v): %v %v", r, b, ok)
		}
	}
	for _, b := range [][]byte{nil, {0}, {0, 0, 0, 0, 0, 0}, {0, 0, 0, 0, 0, 0, 0, 0}, {9, 0, 0, 0, 0, 0, 0}, {255, 0, 0, 0, 0, 0, 0}, {0, 1, 0, 0, 0, 0, 1}, {0, 1, 1, 0, 0, 0, 0}, {0, 2, 0, 0, 0, 0, 0}, {0, 255, 255, 255, 255, 255, 255}} {
		if r, ok := Answered(b); ok || r != (api.Reply{}) {
			t.Errorf("Answered(%v): %v %v", b, r, ok)
		}
	}
}

// numbersOfAnswers are N at each byte's edge, at the limits, and far beyond them.
func numbersOfAnswers() []int {
	l := slices.Concat(edges, far)
	for bit := range 63 {
		for by := -2; by <= 2; by++ {
			l = append(l, 1<<bit+by, -(1<<bit)+by)
		}
	}
	for by := -300; by <= 300; by++ {
		l = append(l, clock+by)
	}
	return l
}

// P16.2: E and N at all edges and far beyond, one with the other.
func TestEachAnswer(t *testing.T) {
	for _, n := range numbersOfAnswers() {
		for e := -3; e <= 11; e++ {
			answers(t, api.Reply{E: api.Errno(e), N: n})
		}
	}
	for _, e := range slices.Concat(edges, far) {
		for _, n := range []int{0, 1, 258, clock, clock + 1, -1, math.MaxInt, math.MinInt} {
			answers(t, api.Reply{E: api.Errno(e), N: n})
		}
	}
	for e := -300; e <= 300; e++ {
		if _, ok := Answer(api.Reply{E: api.Errno(e)}); ok != (e >= 0 && e <= 8) {
			t.Errorf("Answer of E %d: %v", e, ok)
		}
	}
}

// P16.2: seven bytes, each at all its values, and at all of some; and other lengths.
func TestBytesOfAnswers(t *testing.T) {
	for _, n := range []int{0, 1, 258, 0x0102030405, clock - 1, clock} {
		for e := range 9 {
			for at := range 7 {
				for x := range 256 {
					b := refAnswer(api.Reply{E: api.Errno(e), N: n})
					b[at] = byte(x)
					answered(t, b)
				}
			}
			b := refAnswer(api.Reply{E: api.Errno(e), N: n})
			for short := range 7 {
				if answered(t, b[:short]) || short > 0 && answered(t, b[short:]) {
					t.Errorf("a part of %v is an answer", b)
				}
			}
			for _, more := range []byte{0, 1, 255} {
				if answered(t, append(slices.Clone(b), more)) || answered(t, append([]byte{more}, b...)) || answered(t, slices.Concat(b, b)) {
					t.Errorf("more than %v is an answer", b)
				}
			}
		}
	}
	four := []byte{0, 1, 2, 255}
	for i := range 4096 {
		for _, e := range []byte{0, 1, 7, 8, 9, 10, 255} {
			answered(t, []byte{e, four[i>>10], four[i>>8&3], four[i>>6&3], four[i>>4&3], four[i>>2&3], four[i&3]})
		}
	}
	if answered(t, nil) || answered(t, []byte{}) {
		t.Error("none are an answer")
	}
}

// P16.3: whatever may be asked is got as it was put: each ID and V, each two of the other numbers, each D.
func TestPutAndGot(t *testing.T) {
	s := state(3)
	for n := range 65536 {
		holds(t, api.Op{Kind: leave, ID: n})
		holds(t, api.Op{Kind: rate, ID: n, T: s.draw(0, 255), Max: s.draw(0, 255)})
		holds(t, api.Op{Kind: rate, ID: s.draw(0, 65535), T: n >> 8, Max: n & 255})
		holds(t, api.Op{Kind: submit, Within: s.draw(0, 255), C: s.draw(0, 255), V: n})
		holds(t, api.Op{Kind: submit, Within: n >> 8, C: n & 255, V: s.draw(0, 65535)})
	}
	for n := range 256 {
		for _, name := range has[join] {
			for _, o := range asked() {
				if o.Kind == join {
					*field(&o, name) = n
					holds(t, o)
				}
			}
		}
	}
	if n := eachList(func(l []int) { holds(t, api.Op{Kind: tick, D: l}) }); n != 168421 {
		t.Errorf("%d lists", n)
	}
	for range 100000 {
		holds(t, s.ask())
	}
}

// eachList hands on each D that may be, and tells how many there are.
func eachList(f func(l []int)) int {
	n := 0
	var from func(l []int)
	from = func(l []int) {
		f(l)
		n++
		if len(l) == many {
			return
		}
		for d := 1; d <= longest; d++ {
			from(append(slices.Clone(l), d))
		}
	}
	from(nil)
	return n
}

// P16.3: other bytes are none's: of all that are short there are just as many somebody's as there are to be put.
func TestAllShortBytes(t *testing.T) {
	count := []int{}
	for n := range 3 {
		count = append(count, countGot(t, n, 256, 256))
	}
	// Of three bytes and four the first one tells the kind, and of those that are no kind there are too many for all.
	count = append(count, countGot(t, 3, 7, 256), countGot(t, 4, 6, 24))
	// None of one byte, a Tick of no D of two; each Leave, and each D of one; each D of two.
	if want := []int{0, 0, 1, 65536 + 20, 400}; !slices.Equal(count, want) {
		t.Errorf("%v, not %v", count, want)
	}
}

// countGot tells how many of all bytes of a length are somebody's, the first one below a limit, and the others below another.
func countGot(t *testing.T, length, first, other int) int {
	t.Helper()
	b := make([]byte, length)
	got := 0
	var from func(i int)
	from = func(i int) {
		if i == length {
			if gets(t, b) {
				got++
			}
			return
		}
		top := other
		if i == 0 {
			top = first
		}
		for x := range top {
			b[i] = byte(x)
			from(i + 1)
		}
	}
	from(0)
	return got
}

// P16.3: drawn bytes of all lengths, got and put.
func TestDrawnBytes(t *testing.T) {
	s := state(4)
	somebody, nobody := 0, 0
	for range 300000 {
		b := make([]byte, s.draw(0, 9))
		for i := range b {
			b[i] = byte([]int{s.draw(0, 255), s.draw(0, 5), s.draw(0, 21)}[s.draw(0, 2)])
		}
		if len(b) > 0 && s.draw(0, 3) > 0 {
			b[0] = byte(s.draw(0, 5))
		}
		if gets(t, b) {
			somebody++
		} else {
			nobody++
		}
		answered(t, b)
	}
	if somebody < 10000 || nobody < 10000 {
		t.Errorf("%d are somebody's, %d nobody's", somebody, nobody)
	}
}

// P16.3: what is put otherwise is asked otherwise: no two have the same bytes.
func TestNoTwoAlike(t *testing.T) {
	s := state(5)
	seen := map[string]api.Op{}
	for range 200000 {
		o := s.ask()
		b, _ := Put(o)
		if other, ok := seen[string(b)]; ok && !Same(other, o) {
			t.Fatalf("%v and %v are both put as %v", o, other, b)
		}
		seen[string(b)] = o
	}
}

// P16.3: whatever may be answered is got as it was put, over long rows.
func TestAnswersPutAndGot(t *testing.T) {
	s := state(6)
	for range 500000 {
		n := s.draw(0, 1<<20)<<20 | s.draw(0, 1<<20-1)
		answers(t, api.Reply{E: api.Errno(s.draw(0, 8)), N: n >> s.draw(0, 40)})
		b := make([]byte, 7)
		for i := range b {
			b[i] = byte(s.draw(0, 255))
		}
		b[0], b[1] = byte(s.draw(0, 10)), byte(s.draw(0, 1))
		answered(t, b)
	}
	for n := range 70000 {
		answers(t, api.Reply{E: api.Errno(n % 9), N: n})
		answers(t, api.Reply{E: api.Errno(n % 9), N: clock - n})
	}
}

// P16.1, P16.2: lists and bytes without end, which are nobody's, are told so.
func TestManyBytes(t *testing.T) {
	for _, n := range []int{100, 255, 256, 257, 258, 65537, 1 << 20} {
		for kind := range 256 {
			if n > 300 && kind > 6 && kind != 255 {
				continue
			}
			for _, x := range []byte{0, 1, 4, 255} {
				b := slices.Repeat([]byte{x}, n)
				b[0] = byte(kind)
				if gets(t, b) || answered(t, b) {
					t.Errorf("%d bytes are somebody's", n)
				}
			}
		}
		l := slices.Repeat([]int{1}, n)
		for _, o := range asked() {
			o.D = l
			if b, ok := Put(o); May(o) || ok || len(b) != 0 {
				t.Errorf("%d numbers may be: %v", n, o.Kind)
			}
			if !Same(o, o) || Same(o, api.Op{Kind: o.Kind}) {
				t.Errorf("Same of %d numbers", n)
			}
		}
	}
}

// R3: what is handed in stays as it was, and what is answered is the caller's own.
func TestListsStayAsTheyWere(t *testing.T) {
	for _, o := range asked() {
		want := refPut(o)
		a, _ := Put(o)
		b, _ := Put(o)
		for i := range a[:cap(a)] {
			a[:cap(a)][i] = 0x5a
		}
		if !slices.Equal(b, want) {
			t.Errorf("%v: its bytes are shared", o)
		}
		in := slices.Clone(want)
		x, _ := Get(in)
		y, _ := Get(in)
		for i := range in {
			in[i] = 0x5a
		}
		for i := range x.D[:cap(x.D)] {
			x.D[:cap(x.D)][i] = 99
		}
		if !refSame(y, o) {
			t.Errorf("%v: its D is shared", o)
		}
		if z, ok := Get(want); !ok || !refSame(z, o) {
			t.Errorf("%v: got otherwise by now", o)
		}
		// What is put does not hang on what D becomes.
		o.D = slices.Clone(o.D)
		b, _ = Put(o)
		for i := range o.D {
			o.D[i] = 7
		}
		if !slices.Equal(b, want) {
			t.Errorf("%v: its bytes changed", want)
		}
	}
	r := api.Reply{E: 4, N: 258}
	a, _ := Answer(r)
	b, _ := Answer(r)
	for i := range a[:cap(a)] {
		a[:cap(a)][i] = 0x5a
	}
	if !slices.Equal(b, []byte{4, 0, 0, 0, 0, 1, 2}) {
		t.Error("an answer's bytes are shared")
	}
}

// R3: Same changes neither of the two.
func TestSameChangesNothing(t *testing.T) {
	for _, o := range asked() {
		x, y := long(o), long(o)
		Same(x, y)
		if !slices.Equal(x.D[:cap(x.D)], long(o).D[:cap(x.D)]) || !slices.Equal(y.D[:cap(y.D)], long(o).D[:cap(y.D)]) {
			t.Errorf("%v was changed", o)
		}
	}
}

// R5: what was asked before changes no answer.
func TestAskedAgain(t *testing.T) {
	first := [][]byte{}
	for range 3 {
		for i, o := range asked() {
			b, _ := Put(o)
			if len(first) == i {
				first = append(first, b)
			}
			if !slices.Equal(b, first[i]) {
				t.Errorf("%v: %v, and then %v", o, first[i], b)
			}
			Put(api.Op{Kind: 7, D: []int{9}})
			Get([]byte{4, 3, 9, 9})
			Get(nil)
			Answered([]byte{9})
			if back, ok := Get(first[i]); !ok || !refSame(back, o) {
				t.Errorf("%v: got as %v %v", o, back, ok)
			}
		}
	}
}
