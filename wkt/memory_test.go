package wkt_test

import (
	"slices"
	"strings"
	"testing"

	"groma/wkt"
)

// copied is a list of geometries that shares nothing with l.
func copied(l []wkt.Geo) []wkt.Geo {
	var all []wkt.Geo
	for _, g := range l {
		g.Sizes = slices.Clone(g.Sizes)
		var own [][]wkt.Pair
		for _, list := range g.Lists {
			own = append(own, slices.Clone(list))
		}
		g.Lists = own
		all = append(all, g)
	}
	return all
}

// filled writes over a list and its spare room.
func filled[T any](l []T, v T) {
	l = l[:cap(l)]
	for i := range l {
		l[i] = v
	}
}

// P11.1: no two lists of one answer, and no two answers, share memory, spare room neither.
func TestNewMemory(t *testing.T) {
	for _, s := range append(samples, deep(1, strings.Join(samples, ","))) {
		want := shown(read(s, 0))
		l, _, _ := wkt.Parse(s)
		twin, _, _ := wkt.Parse(s)
		for n, g := range l {
			for m, list := range g.Lists {
				was := copied(l)
				filled(list, wkt.Pair{X: "written", Y: "over"})
				was[n].Lists[m] = list
				if shown(l) != shown(was) {
					t.Errorf("Parse(%q): lists share memory: %s", s, shown(l))
				}
			}
		}
		for n, g := range l {
			was := copied(l)
			filled(g.Lists, nil)
			filled(g.Sizes, -1)
			was[n].Lists, was[n].Sizes = g.Lists, g.Sizes
			if shown(l) != shown(was) {
				t.Errorf("Parse(%q): lists share memory: %s", s, shown(l))
			}
		}
		filled(l, wkt.Geo{Kind: -1})
		if shown(twin) != want {
			t.Errorf("Parse(%q): answers share memory: %s", s, shown(twin))
		}
		told(t, s, read(s, 0)...)
	}
}

// P11.2: Equal and Pairs change nothing of what is handed in, its spare room neither.
func TestUnchanged(t *testing.T) {
	for _, s := range samples {
		l := copied(read(s, 0))
		spare := append(slices.Clone(l), wkt.Geo{Kind: -1, Lists: lists(pairs("5", "6"), pairs("7", "8")), Sizes: []int{4, 5}})
		for n := range spare {
			spare[n].Lists = append(spare[n].Lists, pairs("9", "9"))[:len(spare[n].Lists)]
			spare[n].Sizes = append(spare[n].Sizes, 9)[:len(spare[n].Sizes)]
		}
		was := copied(spare)
		first(wkt.Pairs(spare[:len(l)]), 1<<10)
		for _, g := range spare {
			g.Equal(spare[0])
		}
		if shown(spare) != shown(was) {
			t.Errorf("%s: %s, not %s", s, shown(spare), shown(was))
		}
		for n := range spare {
			lists, sizes := spare[n].Lists, spare[n].Sizes
			if shown([]wkt.Geo{{Lists: lists[len(lists) : len(lists)+1], Sizes: sizes[len(sizes) : len(sizes)+1]}}) != "[{0 0 [[{9 9}]] [9]}]" {
				t.Errorf("%s: the spare room is written over", s)
			}
		}
	}
}

// P11.2: Pairs tells the geometries as they were handed in, whoever writes into them meanwhile.
func TestPairsKeepsNothing(t *testing.T) {
	for _, s := range samples {
		l := copied(read(s, 0))
		want := listed(l)
		seq := wkt.Pairs(l)
		var got []wkt.Pair
		for p := range wkt.Pairs(l) {
			got = append(got, p)
			over(l)
		}
		over(l)
		if !slices.Equal(got, want) || !slices.Equal(slices.Collect(seq), want) {
			t.Errorf("Pairs of %s: %v, not %v", s, got, want)
		}
	}
}

// over writes over all of l.
func over(l []wkt.Geo) {
	for _, g := range l {
		for _, list := range g.Lists {
			filled(list, wkt.Pair{X: "written", Y: "over"})
		}
		filled(g.Lists, nil)
	}
	filled(l, wkt.Geo{Kind: -1})
}
