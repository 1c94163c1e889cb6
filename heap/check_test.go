package heap

import (
	"cmp"
	"testing"
)

// P6.2: Check tells lists that no call of the package makes.
func TestCheck(t *testing.T) {
	for _, c := range []struct {
		list []int
		want bool
	}{
		{nil, true},
		{[]int{4}, true},
		{[]int{4, 4}, true},
		{[]int{4, 5}, true},
		{[]int{5, 4}, false},
		{[]int{1, 3, 2}, true},
		{[]int{2, 3, 1}, false},
		{[]int{2, 1, 3}, false},
		{[]int{1, 5, 2, 6, 7, 3, 4}, true},
		{[]int{1, 5, 2, 4, 7, 3, 6}, false}, // 4 below 5
		{[]int{1, 5, 2, 6, 4, 3, 7}, false},
		{[]int{1, 2, 5, 3, 6, 4, 7}, false},
		{[]int{1, 2, 5, 3, 6, 7, 4}, false},
		{[]int{1, 2, 5, 3, 6, 5, 5}, true},
		{[]int{1, 2, 3, 4, 5, 6, 7, 8, 3}, false}, // the last one of all
		{[]int{1, 2, 3, 4, 5, 6, 7, 8, 4}, true},
	} {
		h := &Heap[int]{order: cmp.Compare[int], list: c.list}
		if h.Check() != c.want {
			t.Errorf("%v: %v", c.list, !c.want)
		}
		turned := &Heap[int]{order: func(a, b int) int { return cmp.Compare(b, a) }}
		for _, v := range c.list {
			turned.list = append(turned.list, -v)
		}
		if turned.Check() != c.want {
			t.Errorf("%v, turned about: %v", turned.list, !c.want)
		}
	}
}

// P6.1, P6.2: the list itself is a binary heap after each call.
func TestListIsHeap(t *testing.T) {
	lies := func(h *Heap[int]) {
		t.Helper()
		for i, v := range h.list {
			for k := 2*i + 1; k <= 2*i+2 && k < len(h.list); k++ {
				if v > h.list[k] {
					t.Fatalf("%v: %d at %d, %d at %d", h.list, v, i, h.list[k], k)
				}
			}
		}
	}
	var l []int
	for i := range 200 {
		l = append(l, i*41%90)
		h := New(cmp.Compare[int], l...)
		lies(h)
		for v := range 30 {
			h.Push(v * 7 % 100)
			lies(h)
			h.Swap(v * 11 % 100)
			lies(h)
		}
		for range h.Drain() {
			lies(h)
		}
	}
}

// What was taken away is not kept.
func TestNothingHidden(t *testing.T) {
	one := func() *int { return new(int) }
	h := New(func(a, b *int) int { return 0 }, one(), one(), one())
	h.Push(one())
	hidden := func() {
		t.Helper()
		for i, p := range h.list[:cap(h.list)] {
			if (p != nil) != (i < h.Len()) {
				t.Errorf("%d are there, but at %d is %v", h.Len(), i, p)
			}
		}
	}
	for range 2 {
		h.Pop()
		hidden()
	}
	for range h.Drain() {
		hidden()
	}
	hidden()
}

// P6.1, P6.2: a call goes one way through the heap: of 2^12 things it asks for no more than two of each row.
func TestFewAsked(t *testing.T) {
	asked := 0
	h := New(func(a, b int) int {
		asked++
		return cmp.Compare(a, b)
	})
	few := func(call string) {
		t.Helper()
		if asked > 2*12 {
			t.Errorf("%s with %d things asks %d times", call, h.Len(), asked)
		}
		asked = 0
	}
	var l []int
	for i := range 1 << 12 {
		h.Push(-i)
		few("Push")
		l = append(l, -i)
	}
	for i := range 1 << 12 {
		h.Swap(i)
		few("Swap")
	}
	for range 1 << 12 {
		h.Pop()
		few("Pop")
	}
	New(h.order, l...)
	if asked > 2*len(l) {
		t.Errorf("New with %d things asks %d times", len(l), asked)
	}
}
