package heap_test

import (
	"cmp"
	"math"
	"slices"
	"strings"
	"testing"

	"groma/heap"
)

// P6.1: all lists of few things, which a heap begins with, and which are pushed.
func TestAllSmall(t *testing.T) {
	for n := range 7 {
		for _, l := range lists(n) {
			p := newPair(t, cmp.Compare[int], l...)
			p.empty()
			for _, v := range l {
				p.push(v)
			}
			p.empty()
		}
	}
}

// P6.2: all lists of few things, each swapped, and drained up to each place.
func TestAllSmallSwapped(t *testing.T) {
	for n := range 5 {
		for _, l := range lists(n) {
			for v := -1; v <= n; v++ {
				p := newPair(t, cmp.Compare[int], l...)
				p.swap(v)
				p.drain(v + 1)
				p.empty()
			}
		}
	}
}

// P6.1, P6.2: many things, in each order, at the beginning and pushed one by one.
func TestMany(t *testing.T) {
	for name, l := range orders(300) {
		t.Run(name, func(t *testing.T) {
			sorted := slices.Sorted(slices.Values(l))
			p := newPair(t, cmp.Compare[int], l...)
			pushed := newPair(t, cmp.Compare[int])
			for _, v := range l {
				pushed.push(v)
			}
			for _, h := range []*heap.Heap[int]{p.heap, pushed.heap} {
				if got := slices.Collect(h.Drain()); !slices.Equal(got, sorted) || h.Len() != 0 {
					t.Errorf("Drain: %v, and %d are left", got, h.Len())
				}
			}
			p.list = nil
			for i, v := range l {
				p.push(v)
				p.push(-v)
				p.swap(l[len(l)-1-i])
			}
			p.empty()
		})
	}
}

// P6.1, P6.2: steps of all kinds.
func TestMixedSteps(t *testing.T) {
	next := random()
	for _, n := range []int{3, 20, 300} {
		p := newPair(t, cmp.Compare[int], n, n/2, n)
		for range 3000 {
			v := next(n)
			switch next(7) {
			case 0, 1, 2:
				p.push(v)
			case 3:
				p.pop()
			case 4, 5:
				p.swap(v)
			default:
				p.drain(1 + next(3))
			}
		}
		p.empty()
	}
}

// The chapter's example.
func TestByHand(t *testing.T) {
	h := heap.New(cmp.Compare[int])
	for _, v := range []int{5, 3, 8} {
		h.Push(v)
	}
	for i, want := range []int{3, 5, 8} {
		if v, ok := h.Pop(); v != want || !ok || h.Len() != 2-i {
			t.Errorf("Pop: %d, %v, and %d are left", v, ok, h.Len())
		}
	}
	if v, ok := h.Pop(); v != 0 || ok || h.Len() != 0 {
		t.Errorf("Pop once more: %d, %v", v, ok)
	}
}

// P6.1, P6.2: without things, all tell a zero one and false.
func TestEmpty(t *testing.T) {
	empty := func(name string, h *heap.Heap[string]) {
		t.Helper()
		if v, ok := h.First(); v != "" || ok {
			t.Errorf("%s, First: %q, %v", name, v, ok)
		}
		if v, ok := h.Pop(); v != "" || ok {
			t.Errorf("%s, Pop: %q, %v", name, v, ok)
		}
		for v := range h.Drain() {
			t.Errorf("%s, Drain: %q", name, v)
		}
		if h.Len() != 0 || !h.Check() {
			t.Errorf("%s: Len %d, Check %v", name, h.Len(), h.Check())
		}
	}
	h := heap.New(strings.Compare)
	empty("new", h)
	if v, ok := h.Swap("b"); v != "" || ok || h.Len() != 1 {
		t.Errorf("Swap: %q, %v, and %d are there", v, ok, h.Len())
	}
	if v, ok := h.Pop(); v != "b" || !ok {
		t.Errorf("Pop of the one that was swapped in: %q, %v", v, ok)
	}
	empty("emptied", h)
	h.Push("c")
	if v, ok := h.First(); v != "c" || !ok || h.Len() != 1 {
		t.Errorf("First of what was emptied and filled: %q, %v", v, ok)
	}
	for range h.Drain() {
	}
	empty("drained", h)
	empty("of a nil list", heap.New(strings.Compare, []string(nil)...))
	empty("of an empty list", heap.New(strings.Compare, []string{}...))
}

// P6.1, P6.2: with one thing.
func TestOne(t *testing.T) {
	for _, v := range []int{6, 7, 8} {
		p := newPair(t, cmp.Compare[int], 7)
		p.swap(v) // ahead of it, the same, behind it
		p.drain(1)
		p.pop()
	}
}

// P6.2: Swap of a thing that comes first tells the one that came first up to then, and the new one next.
func TestSwap(t *testing.T) {
	h := heap.New(cmp.Compare[int], 5, 3, 8)
	for _, c := range []struct{ v, told, first int }{
		{1, 3, 1}, {1, 1, 1}, {9, 1, 5}, {6, 5, 6}, {7, 6, 7}, {8, 7, 8}, {math.MaxInt, 8, 8}, {math.MinInt, 8, math.MinInt},
	} {
		v, ok := h.Swap(c.v)
		if first, there := h.First(); v != c.told || !ok || first != c.first || !there || h.Len() != 3 || !h.Check() {
			t.Errorf("Swap(%d): %d, %v, then First: %d, %v", c.v, v, ok, first, there)
		}
	}
}

// P6.2: Drain tells as far as it is asked; those that were told are there no more, those that were not are still there.
func TestDrainStopped(t *testing.T) {
	l := orders(40)["mixed"]
	for stop := 1; stop <= 41; stop++ {
		h := heap.New(cmp.Compare[int], l...)
		asked := 0
		var told []int
		h.Drain()(func(v int) bool {
			asked++
			told = append(told, v)
			return asked < stop
		})
		want := orders(40)["rising"]
		n := min(stop, 40)
		if !slices.Equal(told, want[:n]) || h.Len() != 40-n || !h.Check() {
			t.Errorf("Drain, stopped after %d: %v, and %d are left", stop, told, h.Len())
		}
		if rest := slices.Collect(h.Drain()); !slices.Equal(rest, want[n:]) {
			t.Errorf("Drain of what is left after %d: %v", stop, rest)
		}
	}
}

// What is ranged over is told as it is when the loop runs; till then nothing is taken.
func TestDrainLate(t *testing.T) {
	h := heap.New(cmp.Compare[int], 2)
	drain := h.Drain()
	h.Push(1)
	if h.Len() != 2 {
		t.Errorf("Drain, not ranged over, leaves %d", h.Len())
	}
	if l := slices.Collect(drain); !slices.Equal(l, []int{1, 2}) {
		t.Errorf("Drain: %v", l)
	}
	if l := slices.Collect(drain); len(l) != 0 {
		t.Errorf("Drain once more: %v", l)
	}
	h.Push(9)
	if l := slices.Collect(drain); !slices.Equal(l, []int{9}) {
		t.Errorf("Drain after a Push: %v", l)
	}
}

// thing is held against others by its key alone, if at all.
type thing struct {
	key  int
	name string
}

func byKey(a, b thing) int { return cmp.Compare(a.key, b.key) }

// P6.1, P6.2: things that are the same to the order are each there, and First tells the one that Pop, Swap and Drain tell.
func TestSameToTheOrder(t *testing.T) {
	next := random()
	names := func() string { return string(rune('a' + next(26))) }
	for _, keys := range []int{1, 2, 10} {
		p := newPair(t, byKey, thing{0, "x"}, thing{0, "y"}, thing{0, "x"})
		for range 300 {
			p.push(thing{next(keys), names()})
			p.push(thing{next(keys), names()})
			p.swap(thing{next(keys), names()})
			if next(3) == 0 {
				p.pop()
			}
		}
		p.drain(50)
		p.empty()
	}
}

// P6.1: one thing that is pushed several times is there as often.
func TestSeveralTimes(t *testing.T) {
	one := &thing{4, "one"}
	h := heap.New(func(a, b *thing) int { return byKey(*a, *b) }, one, one)
	other := &thing{5, "other"}
	h.Push(other)
	h.Push(one)
	if v, ok := h.Swap(one); v != one || !ok || h.Len() != 4 {
		t.Errorf("Swap: %v, %v, and %d are there", v, ok, h.Len())
	}
	for i, want := range []*thing{one, one, one, other, nil} {
		if v, ok := h.Pop(); v != want || ok != (want != nil) {
			t.Errorf("Pop %d: %v, %v", i, v, ok)
		}
	}
}

// P6.1, P6.2: whatever the order is, the heap is as it tells; of an order's answers the signs count.
func TestOrders(t *testing.T) {
	for name, order := range map[string]func(a, b int) int{
		"turned about":        func(a, b int) int { return cmp.Compare(b, a) },
		"by tens":             func(a, b int) int { return cmp.Compare(a/10, b/10) },
		"all the same":        func(a, b int) int { return 0 },
		"even ones first":     func(a, b int) int { return cmp.Or(cmp.Compare(a%2, b%2), cmp.Compare(a, b)) },
		"the last sign first": func(a, b int) int { return cmp.Or(cmp.Compare(a%10, b%10), cmp.Compare(b, a)) },
		"beyond -1 and 1":     func(a, b int) int { return 3 * (a - b) },
	} {
		t.Run(name, func(t *testing.T) {
			next := random()
			for how, l := range orders(60) {
				p := newPair(t, order, l...)
				for range 100 {
					p.push(next(100))
					p.swap(next(100))
				}
				p.drain(80)
				p.empty()
				if p.heap.Len() != 0 {
					t.Errorf("%s: %d are left", how, p.heap.Len())
				}
			}
		})
	}
}

// P6.1: things of any type.
func TestTypes(t *testing.T) {
	texts := newPair(t, strings.Compare, "b", "", "a")
	texts.push("é")
	texts.push("")
	texts.empty()
	nothings := newPair(t, func(a, b struct{}) int { return 0 }, struct{}{})
	nothings.push(struct{}{})
	nothings.swap(struct{}{})
	nothings.empty()
	floats := newPair(t, cmp.Compare[float64], math.Inf(1), math.Inf(-1), 0)
	floats.push(-0.5)
	floats.empty()
}

// What is handed in is not changed, its spare room neither; the list that a heap begins with is not kept.
func TestMemory(t *testing.T) {
	room := []int{9, 5, 7, 1, 3, 100, 101, 102}
	for n := range 6 {
		l := slices.Clone(room)
		h, twin := heap.New(cmp.Compare[int], l[:n]...), heap.New(cmp.Compare[int], l[:n]...)
		h.Push(0)
		h.Push(200)
		h.Swap(4)
		h.Pop()
		if !slices.Equal(l, room) {
			t.Errorf("the list of %d was changed: %v", n, l)
		}
		for i := range l {
			l[i] = -1
		}
		if got := slices.Collect(twin.Drain()); !slices.Equal(got, slices.Sorted(slices.Values(room[:n]))) {
			t.Errorf("the heap of %d has what was written into the list: %v", n, got)
		}
	}
	lists := [][]int{{3, 1, 2}, {2, 9}, {}, nil}
	h := heap.New(func(a, b []int) int { return slices.Compare(a, b) }, lists...)
	for range h.Drain() {
	}
	if !slices.Equal(lists[0], []int{3, 1, 2}) || !slices.Equal(lists[1], []int{2, 9}) {
		t.Errorf("things were changed: %v", lists)
	}
}

// P1: whatever the function tells, each call ends and none panics, and what was pushed is there till it is popped.
// Nothing else is promised of what is no order.
func TestNoOrder(t *testing.T) {
	next := random()
	for name, order := range map[string]func(a, b int) int{
		"none":              nil,
		"always ahead":      func(a, b int) int { return -1 },
		"always behind":     func(a, b int) int { return 1 },
		"any answer":        func(a, b int) int { return next(3) - 1 },
		"around in circles": func(a, b int) int { return (a-b+300)%3 - 1 },
		"far beyond":        func(a, b int) int { return []int{math.MinInt, 0, math.MaxInt}[cmp.Compare(a, b)+1] },
	} {
		t.Run(name, func(t *testing.T) {
			there := []int{3, 1, 2}
			h := heap.New(order, there...)
			away := func(v int, ok bool) {
				if i := slices.Index(there, v); ok && i >= 0 {
					there = slices.Delete(there, i, i+1)
				} else if ok || len(there) > 0 {
					t.Fatalf("told %d, %v, of %v", v, ok, there)
				}
			}
			for range 2000 {
				v := next(40)
				h.Push(v)
				there = append(there, v)
				h.First()
				h.Check()
				away(h.Swap(v + 1))
				there = append(there, v+1)
				if next(2) == 0 {
					away(h.Pop())
				}
			}
			for v := range h.Drain() {
				away(v, true)
			}
			if h.Len() != 0 || len(there) > 0 {
				t.Errorf("Len %d, and %v are left", h.Len(), there)
			}
		})
	}
	none := heap.New(nil, 2, 1)
	if !none.Check() || none.Len() != 2 {
		t.Errorf("without an order: Len %d, Check %v", none.Len(), none.Check())
	}
}
