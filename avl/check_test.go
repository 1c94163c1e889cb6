package avl

import (
	"cmp"
	"testing"
)

func leaf(v int) *node[int] { return &node[int]{thing: v, deep: 1} }

func fork(a *node[int], v int, b *node[int]) *node[int] {
	n := &node[int]{thing: v, kids: [2]*node[int]{a, b}}
	n.deep = 1 + max(a.depth(), b.depth())
	return n
}

// P5.3: Check tells trees that no call of the package makes.
func TestCheck(t *testing.T) {
	deeper := fork(leaf(1), 2, leaf(3))
	deeper.deep = 3
	for _, c := range []struct {
		name string
		root *node[int]
		want bool
	}{
		{"empty", nil, true},
		{"a leaf", leaf(1), true},
		{"deeper by one ahead", fork(leaf(1), 2, nil), true},
		{"deeper by one behind", fork(nil, 1, leaf(2)), true},
		{"deeper by two ahead", fork(fork(leaf(1), 2, nil), 3, nil), false},
		{"deeper by two behind", fork(nil, 1, fork(nil, 2, leaf(3))), false},
		{"deeper by two below ahead", fork(fork(fork(leaf(1), 2, nil), 3, nil), 4, fork(leaf(5), 6, nil)), false},
		{"deeper by two below behind", fork(fork(leaf(1), 2, nil), 3, fork(nil, 4, fork(nil, 5, leaf(6)))), false},
		{"a wrong depth", deeper, false},
		{"a wrong depth of a leaf", fork(&node[int]{thing: 1}, 2, leaf(3)), false},
		{"out of order ahead", fork(leaf(3), 2, leaf(4)), false},
		{"out of order behind", fork(leaf(1), 2, leaf(1)), false},
		{"out of order far below", fork(fork(leaf(1), 2, leaf(5)), 4, leaf(6)), false},
		{"one twice", fork(leaf(1), 1, nil), false},
	} {
		set := &Tree[int]{order: cmp.Compare[int], root: c.root}
		if set.Check() != c.want {
			t.Errorf("%s: %v", c.name, !c.want)
		}
	}
}

// reach is how deep a tree is, gone through to its leaves.
func reach(n *node[int]) int {
	if n == nil {
		return 0
	}
	return 1 + max(reach(n.kids[ahead]), reach(n.kids[behind]))
}

// P5.3: Deep is how deep the tree is, after each step.
func TestDeepIsReach(t *testing.T) {
	set := New(cmp.Compare[int])
	ask := func() {
		t.Helper()
		if got, want := set.Deep(), reach(set.root); got != want {
			t.Fatalf("Deep of %d things: %d, not %d", set.Len(), got, want)
		}
	}
	for v := range 500 {
		set.Put(v * 37 % 500)
		ask()
	}
	for v := range 500 {
		set.Del(v * 41 % 500)
		ask()
	}
}
