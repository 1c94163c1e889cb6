package merge_test

import (
	"slices"
	"testing"

	"groma/merge"
)

// filled writes over l and its spare room.
func filled(l []thing) {
	l = l[:cap(l)]
	for i := range l {
		l[i] = thing{-1, -1}
	}
}

// calls are those that tell lists, of two sorted ones.
func calls() map[string]func(l, o []thing) [][]thing {
	return map[string]func(l, o []thing) [][]thing{
		"Sort":  func(l, _ []thing) [][]thing { return [][]thing{merge.Sort(l, byKey)} },
		"Merge": func(l, o []thing) [][]thing { return [][]thing{merge.Merge(l, o, byKey)} },
		"Runs":  func(l, _ []thing) [][]thing { return slices.Collect(merge.Runs(l, sameKey)) },
		"Once":  func(l, _ []thing) [][]thing { return [][]thing{merge.Once(l, byKey)} },
		"Less":  func(l, o []thing) [][]thing { return [][]thing{merge.Less(l, o, byKey)} },
	}
}

// P7.3: what is told shares nothing with what was handed in, with another list of the answer, nor with another answer.
func TestNewMemory(t *testing.T) {
	for name, call := range calls() {
		for n := range 6 {
			for m := range 4 {
				t.Run(name, func(t *testing.T) {
					roomL, roomO := things(0, 1, 1, 2, 4, 4, 0, 9), things(100, 2, 3, 5, 0, 9)
					wantL, wantO := slices.Clone(roomL), slices.Clone(roomO)
					got, twin := call(roomL[:n], roomO[:m]), call(roomL[:n], roomO[:m])
					want := copied(got)
					for i := range got {
						filled(got[i])
						equalPieces(t, got[i+1:], want[i+1:], roomL[:n])
					}
					equalPieces(t, twin, want, roomL[:n])
					equal(t, "what was handed in", roomL, wantL)
					equal(t, "what was handed in", roomO, wantO)
					filled(roomL)
					filled(roomO)
					equalPieces(t, twin, want, wantL[:n])
				})
			}
		}
	}
}

func copied(l [][]thing) [][]thing {
	var out [][]thing
	for _, piece := range l {
		out = append(out, slices.Clone(piece))
	}
	return out
}

// P7.3: nothing is changed of what is handed in, in whatever order it is, its spare room neither.
func TestUnchanged(t *testing.T) {
	for kind, keys := range long(60) {
		l := things(0, keys...)
		was := slices.Clone(l)
		for _, n := range []int{0, 1, 2, 31, 59, 60} {
			for name, call := range calls() {
				call(l[:n], l[n:])
				equal(t, name+", "+kind, l, was)
			}
			merge.Sorted(l[:n], byKey)
			merge.Find(l[:n], thing{n, 0}, byKey)
			equal(t, "Sorted and Find, "+kind, l, was)
		}
	}
}

// P7.2, P7.3: Runs tells the list as it was handed in, however often it is ranged over, and whoever writes meanwhile into
// the list or the pieces.
func TestRunsKeepsNothing(t *testing.T) {
	l := things(0, 1, 1, 2, 3, 3)
	want := cut(l, sameKey)
	runs := merge.Runs(l, sameKey)
	equalPieces(t, slices.Collect(runs), want, l)
	filled(l)
	for range 2 {
		i := 0
		for piece := range runs {
			equal(t, "a piece", piece, want[i])
			filled(piece)
			_ = append(piece, thing{9, 9})
			i++
		}
	}
	l = things(0, 1, 1, 2, 3, 3)
	i := 0
	for piece := range merge.Runs(l, sameKey) {
		filled(l)
		equal(t, "a piece", piece, want[i])
		i++
	}
	if i != len(want) {
		t.Errorf("%d pieces", i)
	}
}

// P1: lists that are in no order, and functions that are none: each call ends and none panics.
func TestNoOrder(t *testing.T) {
	count := 0
	for name, order := range map[string]func(a, b thing) int{
		"none":            nil,
		"by keys":         byKey,
		"always ahead":    func(a, b thing) int { return -1 },
		"always behind":   func(a, b thing) int { return 1 },
		"in a round":      func(a, b thing) int { return (a.key-b.key+300)%3 - 1 },
		"counts its asks": func(a, b thing) int { count++; return count%3 - 1 },
	} {
		for kind, keys := range long(70) {
			l, o := things(0, keys...), things(100, keys...)
			slices.Reverse(o)
			holds := func(call string, got, of []thing) {
				t.Helper()
				byPlace := func(a, b thing) int { return a.at - b.at }
				equal(t, call+", "+name+", "+kind, sorted(got, byPlace), sorted(of, byPlace))
			}
			holds("Sort", merge.Sort(l, order), l)
			holds("Merge", merge.Merge(l, o, order), slices.Concat(l, o))
			if n := len(merge.Once(l, order)); n < 1 || n > len(l) {
				t.Errorf("Once, %s, %s: %d", name, kind, n)
			}
			if n := len(merge.Less(l, o, order)); n > len(l) {
				t.Errorf("Less, %s, %s: %d", name, kind, n)
			}
			if i, _ := merge.Find(l, o[3], order); i < 0 || i > len(l) {
				t.Errorf("Find, %s, %s: %d", name, kind, i)
			}
			merge.Sorted(l, order)
		}
	}
}

// P1: to a nil order all things are the same; a nil function tells of no two that they are.
func TestNilFunctions(t *testing.T) {
	l, o := things(0, 3, 1, 2), things(100, 5, 1)
	equal(t, "Sort", merge.Sort(l, nil), l)
	equal(t, "Merge", merge.Merge(l, o, nil), slices.Concat(l, o))
	equal(t, "Once", merge.Once(l, nil), l[:1])
	equal(t, "Less", merge.Less(l, o, nil), nil)
	equal(t, "Less, with nothing gone", merge.Less(l, nil, nil), l)
	if !merge.Sorted(l, nil) {
		t.Error("Sorted: false")
	}
	if i, ok := merge.Find(l, o[0], nil); i != 0 || !ok {
		t.Errorf("Find: %d, %v", i, ok)
	}
	if i, ok := merge.Find(nil, o[0], nil); i != 0 || ok {
		t.Errorf("Find in nothing: %d, %v", i, ok)
	}
	equalPieces(t, slices.Collect(merge.Runs(l, nil)), [][]thing{l[:1], l[1:2], l[2:]}, l)
	for range merge.Runs[thing](nil, nil) {
		t.Error("Runs of nothing: a piece")
	}
}
