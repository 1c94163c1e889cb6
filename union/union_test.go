package union_test

import (
	"math"
	"slices"
	"testing"

	"groma/api"
	"groma/union"
)

// P8.1, P8.2: of none, of one, and of more numbers, all that can be joined in a few steps, numbers that are none too.
func TestAllSmall(t *testing.T) {
	for n, steps := range []int{2, 3, 3, 3, 2, 2, 2} {
		all := [][][2]int{nil}
		for range steps {
			var longer [][][2]int
			for _, l := range all {
				for a := -1; a <= n; a++ {
					for b := -1; b <= n; b++ {
						longer = append(longer, append(slices.Clone(l), [2]int{a, b}))
					}
				}
			}
			all = longer
		}
		for _, l := range all {
			p := pair{t, union.New(n), newModel(n)}
			for _, two := range l {
				p.join(two[0], two[1])
			}
			p.whole()
		}
	}
}

// P8.1, P8.2: many numbers, joined in all orders, looked at on the way.
func TestMany(t *testing.T) {
	for _, n := range []int{2, 5, 16, 33, 64} {
		for kind, way := range ways(n) {
			t.Run(kind, func(t *testing.T) {
				p := newPair(t, n)
				for i, two := range way {
					p.join(two[0], two[1])
					if i%7 == 0 {
						p.whole()
					}
					p.join(two[1], two[0])
					p.join(two[0], two[0])
				}
				p.whole()
			})
		}
	}
}

// The chapter's example.
func TestExample(t *testing.T) {
	s := union.New(4)
	if ok, e := s.Join(1, 3); !ok || e != api.OK {
		t.Errorf("Join: %v, %d", ok, e)
	}
	equalGroups(t, slices.Collect(s.Groups()), [][]int{{0}, {1, 3}, {2}})
	if got := s.Numbers(); !slices.Equal(got, []int{0, 1, 2, 1}) {
		t.Errorf("Numbers: %v", got)
	}
}

// P8.1: sets of no numbers, as none are asked for, or fewer than none, or too many.
func TestOfNone(t *testing.T) {
	for _, n := range []int{0, -1, -2, math.MinInt, 1<<20 + 1, 1<<20 + 2, 1 << 21, 1 << 40, math.MaxInt} {
		s := union.New(n)
		if s.Len() != 0 || s.Count() != 0 || len(s.Numbers()) != 0 {
			t.Errorf("New(%d): Len %d, Count %d, Numbers %v", n, s.Len(), s.Count(), s.Numbers())
		}
		for range s.Groups() {
			t.Errorf("New(%d): a group", n)
		}
		for _, a := range []int{0, 1, -1, n, n - 1} {
			if ok, e := s.Join(a, 0); ok || e != api.ErrRange {
				t.Errorf("New(%d), Join(%d, 0): %v, %d", n, a, ok, e)
			}
			if least, e := s.Least(a); least != 0 || e != api.ErrRange || s.Size(a) != 0 || s.Same(a, a) {
				t.Errorf("New(%d), %d: Least %d, %d, Size %d", n, a, least, e, s.Size(a))
			}
		}
	}
}

// P8.1: what is refused changes nothing, whichever of the two is no number.
func TestRefused(t *testing.T) {
	for _, n := range []int{1, 2, 9} {
		p := newPair(t, n)
		p.join(0, n-1)
		for a := range n {
			for _, b := range beyond(n) {
				p.join(a, b)
				p.join(b, a)
				for _, c := range beyond(n) {
					p.join(b, c)
				}
			}
		}
		p.whole()
	}
}

// P8.2: Groups tells no set more than it is asked for, and begins anew each time.
func TestGroupsStopped(t *testing.T) {
	for name, joins := range map[string][][2]int{
		"all single": nil, "all one": ways(7)["rising"], "mixed": {{6, 1}, {2, 4}, {4, 6}, {0, 5}},
	} {
		t.Run(name, func(t *testing.T) {
			p := newPair(t, 7)
			for _, two := range joins {
				p.join(two[0], two[1])
			}
			want, groups := p.groups(), p.sets.Groups()
			for most := 1; most <= len(want); most++ {
				var got [][]int
				for group := range groups {
					got = append(got, group)
					if len(got) == most {
						break
					}
				}
				equalGroups(t, got, want[:most])
			}
			equalGroups(t, slices.Collect(groups), want)
			p.whole()
		})
	}
}

// P8.2: Groups tells the sets as they are when the loop runs, whenever it was asked for them.
func TestGroupsWhenTheLoopRuns(t *testing.T) {
	p := newPair(t, 6)
	groups := p.sets.Groups()
	for _, two := range [][2]int{{5, 3}, {4, 0}, {1, 5}, {0, 1}, {2, 2}} {
		p.join(two[0], two[1])
		equalGroups(t, slices.Collect(groups), p.groups())
	}
}

// P8.1: sets of their own know nothing of one another.
func TestApart(t *testing.T) {
	a, b := newPair(t, 5), newPair(t, 5)
	a.join(0, 3)
	b.whole()
	b.join(3, 4)
	b.join(1, 2)
	a.whole()
	b.whole()
}
