package union_test

import (
	"slices"
	"testing"
)

// filled writes over l and its spare room.
func filled(l []int) {
	l = l[:cap(l)]
	for i := range l {
		l[i] = -9
	}
}

// mixes are sets of 9 numbers: all single, all one, and mixed.
func mixes(t *testing.T) map[string]pair {
	t.Helper()
	all := map[string]pair{"all single": newPair(t, 9), "all one": newPair(t, 9), "mixed": newPair(t, 9)}
	for _, two := range ways(9)["always two as great"] {
		all["all one"].join(two[0], two[1])
	}
	for _, two := range [][2]int{{8, 1}, {2, 4}, {4, 8}, {0, 5}, {7, 6}} {
		all["mixed"].join(two[0], two[1])
	}
	return all
}

// P8.2: no two lists that Groups tells share any memory, be they of one answer or of two; whoever writes into them, and
// into their spare room, changes nothing of the sets.
func TestGroupsNewMemory(t *testing.T) {
	for name, p := range mixes(t) {
		t.Run(name, func(t *testing.T) {
			groups, want := p.sets.Groups(), p.groups()
			got, twin, other := slices.Collect(groups), slices.Collect(groups), p.told()
			for i := range got {
				filled(got[i])
				equalGroups(t, got[i+1:], want[i+1:])
			}
			equalGroups(t, twin, want)
			p.whole()
			p.join(3, 7)
			equalGroups(t, other, want)
			p.whole()
		})
	}
}

// P8.2: whoever writes into a list of Groups within the loop changes nothing of the lists that come then.
func TestGroupsWrittenInTheLoop(t *testing.T) {
	for name, p := range mixes(t) {
		t.Run(name, func(t *testing.T) {
			i, want := 0, p.groups()
			for group := range p.sets.Groups() {
				if !slices.Equal(group, want[i]) {
					t.Errorf("the set at %d: %v, not %v", i, group, want[i])
				}
				filled(group)
				i++
			}
			if i != len(want) {
				t.Errorf("%d sets, not %d", i, len(want))
			}
			p.whole()
		})
	}
}

// P8.2: Numbers tells new memory each time; whoever writes into it changes nothing of the sets.
func TestNumbersNewMemory(t *testing.T) {
	for name, p := range mixes(t) {
		t.Run(name, func(t *testing.T) {
			got, twin := p.sets.Numbers(), p.sets.Numbers()
			want := slices.Clone(got)
			filled(got)
			if !slices.Equal(twin, want) {
				t.Errorf("Numbers: %v, not %v", twin, want)
			}
			p.whole()
			p.join(3, 7)
			if !slices.Equal(twin, want) {
				t.Errorf("Numbers: %v, not %v", twin, want)
			}
			p.whole()
		})
	}
}
