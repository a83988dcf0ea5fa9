package queue

import (
	"cmp"
	"math"
	"slices"
	"testing"

	"fusee/api"
)

// it is an item: a key of an ID.
func it(key, id int) api.Item { return api.Item{Key: key, ID: id} }

// refAhead says by the chapter's words whether a is ahead of b.
func refAhead(a, b api.Item) bool {
	return a.Key < b.Key || a.Key == b.Key && a.ID < b.ID
}

// refMay says by the chapter's words whether a list may be: every pair is looked at, not neighbours alone.
func refMay(l []api.Item) bool {
	if len(l) > 40 {
		return false
	}
	for i := range l {
		for j := range i {
			if l[i].ID == l[j].ID || refAhead(l[i], l[j]) {
				return false
			}
		}
	}
	return true
}

// refSort orders by the library's sort, in memory of its own.
func refSort(l []api.Item) []api.Item {
	return slices.SortedFunc(slices.Values(l), func(a, b api.Item) int {
		return cmp.Or(cmp.Compare(a.Key, b.Key), cmp.Compare(a.ID, b.ID))
	})
}

// refFind is where the ID stands, or -1.
func refFind(l []api.Item, id int) int {
	return slices.IndexFunc(l, func(x api.Item) bool { return x.ID == id })
}

// roomy is a copy of a list with room behind it, filled with a mark: a call that appends to what it was handed writes there.
func roomy(l []api.Item) []api.Item {
	big := make([]api.Item, len(l)+4)
	for i := range big {
		big[i] = it(-77, -77)
	}
	copy(big, l)
	return big[:len(l)]
}

// spoil changes all of a list, also the room behind it.
func spoil(l []api.Item) {
	l = l[:cap(l)]
	for i := range l {
		l[i] = it(123456, 654321)
	}
}

// kept fails if the list, or the room behind it, is not as roomy made it.
func kept(t *testing.T, call string, l, want []api.Item) {
	t.Helper()
	if !slices.Equal(l[:cap(l)], roomy(want)[:len(want)+4]) {
		t.Fatalf("%s changed what was handed in: %v, was %v", call, l[:cap(l)], want)
	}
}

// own fails if the answer is not want, shares memory with the argument, or hangs on what it was made of: it spoils both.
func own(t *testing.T, call string, in, was, got, want []api.Item) {
	t.Helper()
	if !slices.Equal(got, want) {
		t.Fatalf("%s of %v: %v, want %v", call, was, got, want)
	}
	kept(t, call, in, was)
	spoil(got)
	kept(t, call+", its answer changed,", in, was)
}

// checkList holds May, Min, Pop and Sort of one list against the chapter's words.
func checkList(t *testing.T, l []api.Item) {
	t.Helper()
	may := refMay(l)
	in := roomy(l)
	if got := May(in); got != may {
		t.Fatalf("P4.1 May(%v): %v", l, got)
	}
	kept(t, "P4.1 May", in, l)
	own(t, "P4.1 Sort", in, l, Sort(in), refSort(l))

	has := may && len(l) > 0
	rest, head := l, api.Item{}
	if has {
		rest, head = l[1:], l[0]
	}
	if x, ok := Min(in); x != head || ok != has {
		t.Fatalf("P4.2 Min(%v): %v %v", l, x, ok)
	}
	kept(t, "P4.2 Min", in, l)
	n, x, ok := Pop(in)
	if x != head || ok != has {
		t.Fatalf("P4.2 Pop(%v): %v %v", l, x, ok)
	}
	own(t, "P4.2 Pop", in, l, n, rest)
}

// checkPush holds Push of one list and one item against the chapter's words.
func checkPush(t *testing.T, l []api.Item, x api.Item) {
	t.Helper()
	want, can := l, refMay(l) && len(l) < 40 && refFind(l, x.ID) < 0
	if can {
		want = refSort(append(slices.Clone(l), x))
	}
	in := roomy(l)
	n, ok := Push(in, x)
	if ok != can {
		t.Fatalf("P4.2 Push(%v, %v): %v", l, x, ok)
	}
	own(t, "P4.2 Push", in, l, n, want)
}

// checkDrop holds Drop of one list and one ID against the chapter's words.
func checkDrop(t *testing.T, l []api.Item, id int) {
	t.Helper()
	want, at := l, refFind(l, id)
	can := refMay(l) && at >= 0
	if can {
		want = slices.Concat(l[:at], l[at+1:])
	}
	in := roomy(l)
	n, ok := Drop(in, id)
	if ok != can {
		t.Fatalf("P4.2 Drop(%v, %d): %v", l, id, ok)
	}
	own(t, "P4.2 Drop", in, l, n, want)
}

// checkAll holds every call against the chapter's words, with each item pushed and each ID dropped.
func checkAll(t *testing.T, l []api.Item, others []api.Item) {
	t.Helper()
	checkList(t, l)
	for _, x := range others {
		checkPush(t, l, x)
		checkDrop(t, l, x.ID)
	}
	for _, x := range l {
		checkPush(t, l, x)
		checkPush(t, l, it(x.Key+1, x.ID))
		checkPush(t, l, it(x.Key-1, x.ID))
		checkDrop(t, l, x.ID)
	}
}

// lists hands on all lists of at most n of these items, in any order, also with one more than once.
func lists(of []api.Item, n int, each func([]api.Item)) {
	var grow func(l []api.Item)
	grow = func(l []api.Item) {
		each(l)
		if len(l) == n {
			return
		}
		for _, x := range of {
			grow(append(slices.Clone(l), x))
		}
	}
	grow(nil)
}

// long is a queue of n items: keys rise every third item, IDs are all over.
func long(n int) []api.Item {
	l := make([]api.Item, n)
	for i := range l {
		l[i] = it(i/3-5, (i*17)%101-50)
	}
	return refSort(l)
}

// edges are the greatest and the least keys and IDs, and those near none.
var edges = []api.Item{
	it(math.MinInt, math.MinInt), it(math.MinInt, math.MaxInt), it(math.MinInt, 0),
	it(math.MaxInt, math.MinInt+1), it(math.MaxInt, math.MaxInt-1), it(math.MaxInt, 1),
	it(0, -1), it(-1, -2), it(1, 2), it(math.MinInt+1, 3), it(math.MaxInt-1, 4), it(0, 5),
}

func TestChapterExample(t *testing.T) {
	want := []api.Item{it(3, 2), it(5, 0), it(5, 1)}
	given := []api.Item{it(5, 1), it(3, 2), it(5, 0)}
	if got := Sort(given); !slices.Equal(got, want) {
		t.Errorf("P4.1 Sort: %v", got)
	}
	var l []api.Item
	for _, x := range given {
		n, ok := Push(l, x)
		if !ok {
			t.Errorf("P4.2 Push of %v", x)
		}
		l = n
	}
	if !slices.Equal(l, want) {
		t.Errorf("P4.2 Push: %v", l)
	}
	if May(given) || !May(want) {
		t.Errorf("P4.1 May: %v %v", May(given), May(want))
	}
}

// P4.1: what may be, said plainly.
func TestMay(t *testing.T) {
	full := make([]api.Item, 41)
	for i := range full {
		full[i] = it(i, i)
	}
	for _, c := range []struct {
		name string
		l    []api.Item
		want bool
	}{
		{"nil", nil, true},
		{"empty", []api.Item{}, true},
		{"one", []api.Item{it(7, 9)}, true},
		{"one, zero", []api.Item{{}}, true},
		{"one, the least", []api.Item{it(math.MinInt, math.MinInt)}, true},
		{"rising keys", []api.Item{it(1, 9), it(2, 8)}, true},
		{"falling keys", []api.Item{it(2, 8), it(1, 9)}, false},
		{"one key, rising IDs", []api.Item{it(1, 8), it(1, 9)}, true},
		{"one key, falling IDs", []api.Item{it(1, 9), it(1, 8)}, false},
		{"the same twice", []api.Item{it(1, 1), it(1, 1)}, false},
		{"zero twice", []api.Item{{}, {}}, false},
		{"one ID, rising keys", []api.Item{it(1, 1), it(2, 1)}, false},
		{"one ID, others between", []api.Item{it(1, 1), it(2, 2), it(3, 3), it(4, 1)}, false},
		{"the last one not ordered", []api.Item{it(1, 1), it(2, 2), it(3, 3), it(2, 4)}, false},
		{"negative", []api.Item{it(-3, 1), it(-2, -9), it(-2, -8), it(0, -7)}, true},
		{"the least and the greatest key", []api.Item{it(math.MinInt, 1), it(math.MaxInt, 0)}, true},
		{"the greatest and the least key", []api.Item{it(math.MaxInt, 0), it(math.MinInt, 1)}, false},
		{"the least and the greatest ID", []api.Item{it(0, math.MinInt), it(0, math.MaxInt)}, true},
		{"the greatest and the least ID", []api.Item{it(0, math.MaxInt), it(0, math.MinInt)}, false},
		{"39", full[:39], true},
		{"40", full[:40], true},
		{"41", full, false},
	} {
		if got := May(c.l); got != c.want {
			t.Errorf("P4.1 May of %s: %v", c.name, got)
		}
	}
}

// P4.1, P4.2: each call, of all short lists of a few items: some may be, most may not.
func TestAllShortLists(t *testing.T) {
	var of []api.Item
	for key := -1; key <= 1; key++ {
		for id := -1; id <= 1; id++ {
			of = append(of, it(key, id))
		}
	}
	others := append(slices.Clone(of), it(0, 7), it(-2, -7), it(2, 8))
	lists(of, 3, func(l []api.Item) { checkAll(t, l, others) })
	lists(of, 5, func(l []api.Item) { checkList(t, l) })
}

// P4.1, P4.2: each call, of queues of all lengths about the limit.
func TestLongQueues(t *testing.T) {
	others := []api.Item{it(-100, 900), it(100, 901), it(0, 902), it(0, -900), it(-5, -901), it(math.MinInt, 0), it(math.MaxInt, math.MaxInt)}
	for n := range 46 {
		l := long(n)
		checkAll(t, l, others)
		back := slices.Clone(l)
		slices.Reverse(back)
		checkAll(t, back, others)
	}
}

// P4.2: 40 items have no room for one more, and all 40 are there.
func TestFull(t *testing.T) {
	var l []api.Item
	for i := range 40 {
		n, ok := Push(l, it(-i, i))
		if !ok || len(n) != i+1 {
			t.Fatalf("P4.2 Push of the %d. item: %v %v", i+1, n, ok)
		}
		l = n
	}
	if n, ok := Push(l, it(1, 40)); ok || !slices.Equal(n, l) {
		t.Errorf("P4.2 Push of one more: %v %v", n, ok)
	}
	n, ok := Drop(l, 20)
	if !ok || len(n) != 39 {
		t.Fatalf("P4.2 Drop: %v %v", n, ok)
	}
	if n, ok = Push(n, it(1, 40)); !ok || len(n) != 40 || n[39] != it(1, 40) {
		t.Errorf("P4.2 Push into a room made: %v %v", n, ok)
	}
}

// P4.1, P4.2: the greatest and the least that there are.
func TestEdges(t *testing.T) {
	checkAll(t, refSort(edges), append(slices.Clone(edges), it(math.MinInt, 77), it(math.MaxInt, 78)))
	lists(edges, 2, func(l []api.Item) { checkAll(t, l, edges) })
	lists(edges, 3, func(l []api.Item) { checkList(t, l) })
}

// P4.2: Drop of the first one, of one between, of the last one, and of the only one.
func TestDropPlaces(t *testing.T) {
	l := []api.Item{it(-4, 7), it(3, 2), it(5, 0), it(5, 1)}
	for _, c := range []struct {
		id   int
		want []api.Item
	}{
		{7, []api.Item{it(3, 2), it(5, 0), it(5, 1)}},
		{2, []api.Item{it(-4, 7), it(5, 0), it(5, 1)}},
		{0, []api.Item{it(-4, 7), it(3, 2), it(5, 1)}},
		{1, []api.Item{it(-4, 7), it(3, 2), it(5, 0)}},
	} {
		if got, ok := Drop(l, c.id); !ok || !slices.Equal(got, c.want) {
			t.Errorf("P4.2 Drop of %d: %v %v", c.id, got, ok)
		}
	}
	for _, id := range []int{-4, 3, 5, 9, -7, math.MinInt, math.MaxInt} {
		if got, ok := Drop(l, id); ok || !slices.Equal(got, l) {
			t.Errorf("P4.2 Drop of %d, which is not there: %v %v", id, got, ok)
		}
	}
	if got, ok := Drop(l[:1], 7); !ok || len(got) != 0 {
		t.Errorf("P4.2 Drop of the only one: %v %v", got, ok)
	}
}

// P4.2: of an empty list, also nil.
func TestEmpty(t *testing.T) {
	for _, l := range [][]api.Item{nil, {}} {
		if n, x, ok := Pop(l); ok || x != (api.Item{}) || len(n) != 0 {
			t.Errorf("P4.2 Pop: %v %v %v", n, x, ok)
		}
		if x, ok := Min(l); ok || x != (api.Item{}) {
			t.Errorf("P4.2 Min: %v %v", x, ok)
		}
		if n, ok := Drop(l, 0); ok || len(n) != 0 {
			t.Errorf("P4.2 Drop: %v %v", n, ok)
		}
		if n, ok := Push(l, api.Item{}); !ok || !slices.Equal(n, []api.Item{{}}) {
			t.Errorf("P4.2 Push: %v %v", n, ok)
		}
		if n := Sort(l); len(n) != 0 {
			t.Errorf("P4.1 Sort: %v", n)
		}
	}
}

// P4.2: of a list that may not be all is answered as it was, and nothing of it told.
func TestWrongLists(t *testing.T) {
	over := make([]api.Item, 41)
	for i := range over {
		over[i] = it(i, i)
	}
	for _, l := range [][]api.Item{
		over,
		slices.Concat(over, over),
		{it(1, 1), it(2, 1)},
		{it(1, 1), it(2, 2), it(3, 1)},
		{it(1, 1), it(1, 1)},
		{it(2, 1), it(1, 2)},
		{it(1, 2), it(1, 1)},
		{it(1, 1), it(2, 2), it(3, 3), it(2, 4)},
	} {
		if n, ok := Push(l, it(0, 99)); ok || !slices.Equal(n, l) {
			t.Errorf("P4.2 Push: %v %v", n, ok)
		}
		if n, x, ok := Pop(l); ok || x != (api.Item{}) || !slices.Equal(n, l) {
			t.Errorf("P4.2 Pop: %v %v %v", n, x, ok)
		}
		if n, ok := Drop(l, 1); ok || !slices.Equal(n, l) {
			t.Errorf("P4.2 Drop: %v %v", n, ok)
		}
		if x, ok := Min(l); ok || x != (api.Item{}) {
			t.Errorf("P4.2 Min: %v %v", x, ok)
		}
		checkAll(t, l, edges)
	}
}

// P4.1: Sort of any list, also one that may not be: longer, and with items that are the same.
func TestSortAnyList(t *testing.T) {
	same := []api.Item{it(2, 1), it(1, 1), it(2, 1), it(1, 1), it(2, 1)}
	if got := Sort(same); !slices.Equal(got, []api.Item{it(1, 1), it(1, 1), it(2, 1), it(2, 1), it(2, 1)}) {
		t.Errorf("P4.1 Sort: %v", got)
	}
	for _, n := range []int{40, 41, 64, 100, 1000, 5000} {
		for _, span := range []int{1, 2, 7, 1000} {
			l := make([]api.Item, n)
			for i := range l {
				l[i] = it((i*7919+span)%span-span/2, (i*104729)%5-2)
			}
			in := roomy(l)
			own(t, "P4.1 Sort", in, l, Sort(in), refSort(l))
		}
	}
}

// R3: what is changed of an argument behind a call changes nothing of its answer.
func TestAnswersAreOwn(t *testing.T) {
	for _, l := range [][]api.Item{long(1), long(4), long(40), long(41), {it(2, 1), it(1, 2)}} {
		answers := []func(in []api.Item) []api.Item{
			func(in []api.Item) []api.Item { n, _ := Push(in, it(0, 1000)); return n },
			func(in []api.Item) []api.Item { n, _ := Push(in, in[0]); return n },
			func(in []api.Item) []api.Item { n, _, _ := Pop(in); return n },
			func(in []api.Item) []api.Item { n, _ := Drop(in, in[0].ID); return n },
			func(in []api.Item) []api.Item { n, _ := Drop(in, in[len(in)-1].ID); return n },
			func(in []api.Item) []api.Item { n, _ := Drop(in, 1000); return n },
			Sort,
		}
		for i, answer := range answers {
			in := roomy(l)
			got := answer(in)
			was := slices.Clone(got)
			spoil(in)
			if !slices.Equal(got, was) {
				t.Errorf("R3: answer %d of %v hangs on what was handed in", i, l)
			}
		}
	}
}

// P4.3: all that is pushed, in any order, is popped by rising keys, each once; what is dropped is not.
func TestPushedIsPopped(t *testing.T) {
	for n := range 41 {
		for _, step := range []int{1, 3, 7, 11, 40} {
			var l, left []api.Item
			for i := range n {
				x := it((i*step)%9-4, (i*43)%41-20)
				next, ok := Push(l, x)
				if !ok || !May(next) {
					t.Fatalf("P4.3 Push(%v, %v): %v %v", l, x, next, ok)
				}
				l = next
				left = append(left, x)
			}
			for i := 0; i < len(left); i += 2 {
				next, ok := Drop(l, left[i].ID)
				if !ok || !May(next) {
					t.Fatalf("P4.3 Drop(%v, %d): %v %v", l, left[i].ID, next, ok)
				}
				l = next
				left = slices.Delete(left, i, i+1)
			}
			if got := popAll(t, l); !slices.Equal(got, refSort(left)) {
				t.Fatalf("P4.3: %v, want %v", got, refSort(left))
			}
		}
	}
}

// popAll pops till there is none, and holds what Min tells against each.
func popAll(t *testing.T, l []api.Item) []api.Item {
	t.Helper()
	var got []api.Item
	for range 41 {
		head, has := Min(l)
		next, x, ok := Pop(l)
		if ok != has || x != head {
			t.Fatalf("P4.2 Min %v %v, Pop %v %v", head, has, x, ok)
		}
		if !ok {
			return got
		}
		if !May(next) {
			t.Fatalf("P4.3 Pop(%v): %v", l, next)
		}
		got, l = append(got, x), next
	}
	t.Fatalf("P4.3: popped more than 40")
	return nil
}
