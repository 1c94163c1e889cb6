package merge_test

import (
	"cmp"
	"math"
	"slices"
	"strings"
	"testing"

	"groma/merge"
)

// ask holds what all calls tell of a list of any kind, and of it when it is sorted, against what they should.
func ask(t *testing.T, l []thing, order func(a, b thing) int) {
	t.Helper()
	s := merge.Sort(l, order)
	equal(t, "Sort", s, sorted(l, order), l)
	equal(t, "Once", merge.Once(l, order), once(l, order), l)
	if got, want := merge.Sorted(l, order), isSorted(l, order); got != want {
		t.Errorf("Sorted of %v: %v", l, got)
	}
	if !merge.Sorted(s, order) {
		t.Errorf("Sorted of %v: false", s)
	}
	same := func(a, b thing) bool { return order(a, b) == 0 }
	equalPieces(t, slices.Collect(merge.Runs(l, same)), cut(l, same), l)
	equalPieces(t, slices.Collect(merge.Runs(s, same)), cut(s, same), s)
}

// find holds what Find tells of v against what it should.
func find(t *testing.T, l []thing, v thing, order func(a, b thing) int) {
	t.Helper()
	i, ok := merge.Find(l, v, order)
	if want, there := place(l, v, order); i != want || ok != there {
		t.Errorf("Find of %v in %v: %d, %v, not %d, %v", v, l, i, ok, want, there)
	}
}

// P7.1, P7.2: all lists of few things, without any and with one too.
func TestAllSmall(t *testing.T) {
	for n := range 8 {
		for _, keys := range lists(n, 2) {
			ask(t, things(0, keys...), byKey)
		}
	}
	for n := range 6 {
		for _, keys := range lists(n, 4) {
			for _, order := range orders() {
				ask(t, things(0, keys...), order)
			}
		}
	}
}

// P7.1, P7.2, P7.3: many things, in all orders.
func TestMany(t *testing.T) {
	for name, order := range orders() {
		for kind, keys := range long(101) {
			t.Run(name+" "+kind, func(t *testing.T) {
				l := things(0, keys...)
				ask(t, l, order)
				s := sorted(l, order)
				for key := -102; key <= 102; key++ {
					find(t, s, thing{key, 50}, order)
				}
				for first, other := range long(60) {
					o := sorted(things(1000, other...), order)
					equal(t, "Merge with "+first, merge.Merge(s, o, order), sorted(slices.Concat(s, o), order), s, o)
					equal(t, "Less with "+first, merge.Less(s, o, order), without(s, o, order), s, o)
				}
			})
		}
	}
}

// P7.1, P7.3: all pairs of sorted lists of few things: without any, one that ends ahead of the other, the same in both.
func TestAllSmallPairs(t *testing.T) {
	for _, a := range rising(5, 3) {
		for _, b := range rising(4, 3) {
			l, o := things(0, a...), things(100, b...)
			equal(t, "Merge", merge.Merge(l, o, byKey), sorted(slices.Concat(l, o), byKey), l, o)
			equal(t, "Less", merge.Less(l, o, byKey), without(l, o, byKey), l, o)
		}
	}
}

// P7.3: of all sorted lists of few things: ahead of all, behind all, between two, there once and several times.
func TestAllSmallFind(t *testing.T) {
	for _, keys := range rising(7, 3) {
		l := things(0, keys...)
		for i := range l {
			l[i].key *= 2
		}
		for key := -1; key <= 7; key++ {
			find(t, l, thing{key, 100}, byKey)
		}
	}
}

func tens(a, b int) int { return cmp.Compare(a/10, b/10) }

func sameTens(a, b int) bool { return a/10 == b/10 }

// The chapter's examples, and others.
func TestByHand(t *testing.T) {
	l := []int{31, 12, 33, 14}
	equal(t, "Sort", merge.Sort(l, tens), []int{12, 14, 31, 33}, l)
	equal(t, "Once", merge.Once(l, tens), []int{12, 31}, l)
	if merge.Sorted(l, tens) || !merge.Sorted([]int{14, 12, 33, 31}, tens) || merge.Sorted([]int{12, 31, 33, 14}, tens) {
		t.Error("Sorted")
	}
	equal(t, "Merge", merge.Merge([]int{12, 31}, []int{11, 15, 41}, tens), []int{12, 11, 15, 31, 41})
	equal(t, "Merge", merge.Merge([]int{11, 15, 41}, []int{12, 31}, tens), []int{11, 15, 12, 31, 41})
	equal(t, "Merge", merge.Merge([]int{11, 15, 41}, nil, tens), []int{11, 15, 41})
	equal(t, "Merge", merge.Merge([]int{}, []int{11, 15, 41}, tens), []int{11, 15, 41})
	equalPieces(t, slices.Collect(merge.Runs([]int{31, 12, 14, 33}, sameTens)), [][]int{{31}, {12, 14}, {33}}, nil)
	for _, c := range []struct {
		v, i int
		ok   bool
	}{
		{5, 0, false}, {10, 0, true}, {19, 0, true}, {22, 3, false}, {39, 3, true}, {40, 4, false}, {math.MaxInt, 4, false}, {math.MinInt, 0, false},
	} {
		if i, ok := merge.Find([]int{12, 14, 11, 33}, c.v, tens); i != c.i || ok != c.ok {
			t.Errorf("Find of %d: %d, %v", c.v, i, ok)
		}
	}
	s := []int{5, 12, 14, 31, 45}
	equal(t, "Less", merge.Less(s, []int{11, 44, 99}, tens), []int{5, 31})
	equal(t, "Less, with nothing gone", merge.Less(s, nil, tens), s)
	equal(t, "Less, with all gone", merge.Less(s, []int{1, 2, 19, 30, 40, 41}, tens), nil)
	equal(t, "Less, with those gone that are not there", merge.Less(s, []int{-10, 20, 25, 60}, tens), s)
}

// P7.1, P7.2, P7.3: without things.
func TestEmpty(t *testing.T) {
	for _, none := range [][]string{nil, {}} {
		if n := len(merge.Sort(none, strings.Compare)); n != 0 {
			t.Errorf("Sort: %d", n)
		}
		if n := len(merge.Merge(none, none, strings.Compare)); n != 0 {
			t.Errorf("Merge: %d", n)
		}
		for range merge.Runs(none, func(a, b string) bool { return true }) {
			t.Error("Runs: a piece")
		}
		if n := len(merge.Once(none, strings.Compare)); n != 0 {
			t.Errorf("Once: %d", n)
		}
		if !merge.Sorted(none, strings.Compare) {
			t.Error("Sorted: false")
		}
		if i, ok := merge.Find(none, "", strings.Compare); i != 0 || ok {
			t.Errorf("Find: %d, %v", i, ok)
		}
		if n := len(merge.Less(none, []string{"a"}, strings.Compare)); n != 0 {
			t.Errorf("Less: %d", n)
		}
	}
}

// P7.2: Runs tells as far as it is asked, and asks no more than it must for that: each two neighbours once, in their order.
func TestRunsStopped(t *testing.T) {
	for n := range 7 {
		for _, keys := range lists(n, 2) {
			l := things(0, keys...)
			asked := 0
			runs := merge.Runs(l, func(a, b thing) bool {
				if a.at != asked || b.at != asked+1 {
					t.Errorf("%v and %v are asked behind %d", a, b, asked)
				}
				asked++
				return sameKey(a, b)
			})
			if asked != 0 {
				t.Errorf("Runs, not ranged over, asks %d times", asked)
			}
			want := cut(l, sameKey)
			for stop := range len(want) {
				asked = 0
				var got [][]thing
				runs(func(piece []thing) bool {
					got = append(got, piece)
					return len(got) <= stop
				})
				equalPieces(t, got, want[:stop+1], l)
				if most := min(len(slices.Concat(got...)), n-1); asked != most {
					t.Errorf("Runs of %v, stopped after %d, asks %d times", l, stop+1, asked)
				}
			}
		}
	}
}

// P7.2: what is the same to its neighbour needn't be so to the others of the piece, nor the other way about.
func TestRunsOfNeighbours(t *testing.T) {
	l := []int{1, 2, 3, 5, 4, 5, 6, 6, 7}
	next := func(a, b int) bool { return b == a+1 }
	equalPieces(t, slices.Collect(merge.Runs(l, next)), [][]int{{1, 2, 3}, {5}, {4, 5, 6}, {6, 7}}, l)
	rises := func(a, b int) bool { return a < b }
	equalPieces(t, slices.Collect(merge.Runs(l, rises)), [][]int{{1, 2, 3, 5}, {4, 5, 6}, {6, 7}}, l)
	never := func(a, b int) bool { return false }
	equalPieces(t, slices.Collect(merge.Runs(l, never)), [][]int{{1}, {2}, {3}, {5}, {4}, {5}, {6}, {6}, {7}}, l)
	always := func(a, b int) bool { return true }
	equalPieces(t, slices.Collect(merge.Runs(l, always)), [][]int{l}, l)
}

// P7.1, P7.2, P7.3: things of any type.
func TestTypes(t *testing.T) {
	equal(t, "Sort", merge.Sort([]string{"b", "", "é", "a", ""}, strings.Compare), []string{"", "", "a", "b", "é"})
	nothings := make([]struct{}, 3)
	alike := func(a, b struct{}) int { return 0 }
	equal(t, "Sort", merge.Sort(nothings, alike), nothings)
	equal(t, "Merge", merge.Merge(nothings, nothings, alike), make([]struct{}, 6))
	equal(t, "Once", merge.Once(nothings, alike), nothings[:1])
	floats := []float64{2, math.Inf(1), -0.5, math.Inf(-1)}
	equal(t, "Sort", merge.Sort(floats, cmp.Compare), []float64{math.Inf(-1), -0.5, 2, math.Inf(1)})
	one, other := &thing{1, 0}, &thing{1, 0}
	equal(t, "Sort", merge.Sort([]*thing{one, other, one}, func(a, b *thing) int { return byKey(*a, *b) }), []*thing{one, other, one})
	type list []int
	if i, ok := merge.Find([]list{{1}, {1, 2}, {3}}, list{2}, func(a, b list) int { return slices.Compare(a, b) }); i != 2 || ok {
		t.Errorf("Find: %d, %v", i, ok)
	}
}

// P7.1, P7.2, P7.3: a call asks the order of no more than it must: Sort and Once of 2^10 things of 10 for each,
// Merge and Less of 2 for each, Sorted of 1, Find of 11 in all.
func TestFewAsked(t *testing.T) {
	const n = 1 << 10
	for kind, keys := range long(n) {
		asked := 0
		order := func(a, b thing) int {
			asked++
			return byKey(a, b)
		}
		few := func(call string, most int) {
			t.Helper()
			if asked > most {
				t.Errorf("%s, %s: asks %d times", call, kind, asked)
			}
			asked = 0
		}
		l := things(0, keys...)
		s := merge.Sort(l, order)
		few("Sort", 10*n)
		merge.Once(l, order)
		few("Once", 11*n)
		merge.Merge(s, s, order)
		few("Merge", 2*n)
		merge.Less(s, s, order)
		few("Less", 3*n)
		merge.Sorted(s, order)
		few("Sorted", n)
		for _, v := range l {
			merge.Find(s, v, order)
			few("Find", 12)
		}
	}
}
