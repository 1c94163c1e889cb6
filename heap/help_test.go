package heap_test

import (
	"slices"
	"testing"

	"groma/heap"
)

// pair is a heap and what it should be: a plain list that is gone through from end to end.
type pair[T comparable] struct {
	t     *testing.T
	order func(a, b T) int
	heap  *heap.Heap[T]
	list  []T
}

func newPair[T comparable](t *testing.T, order func(a, b T) int, l ...T) *pair[T] {
	t.Helper()
	p := &pair[T]{t, order, heap.New(order, l...), slices.Clone(l)}
	p.same()
	return p
}

// same holds what the heap tells of itself against what it should, and tells what First told.
func (p *pair[T]) same() (T, bool) {
	p.t.Helper()
	if n := p.heap.Len(); n != len(p.list) {
		p.t.Fatalf("Len of %v: %d", p.list, n)
	}
	if !p.heap.Check() {
		p.t.Fatalf("Check of %v: false", p.list)
	}
	first, ok := p.heap.First()
	var none T
	if ok != (len(p.list) > 0) || !ok && first != none {
		p.t.Fatalf("First of %v: %v, %v", p.list, first, ok)
	}
	if ok && !slices.Contains(p.list, first) {
		p.t.Fatalf("First of %v: %v isn't there", p.list, first)
	}
	for _, v := range p.list {
		if p.order(v, first) < 0 {
			p.t.Fatalf("First of %v: %v, though %v stands ahead of it", p.list, first, v)
		}
	}
	if again, there := p.heap.First(); again != first || there != ok {
		p.t.Fatalf("First of %v: %v, then %v", p.list, first, again)
	}
	return first, ok
}

func (p *pair[T]) push(v T) {
	p.t.Helper()
	p.heap.Push(v)
	p.list = append(p.list, v)
	p.same()
}

// away takes from the list, once, what First told.
func (p *pair[T]) away(v T, ok bool) {
	if ok {
		i := slices.Index(p.list, v)
		p.list = slices.Delete(p.list, i, i+1)
	}
}

func (p *pair[T]) pop() {
	p.t.Helper()
	want, there := p.same()
	if got, ok := p.heap.Pop(); got != want || ok != there {
		p.t.Fatalf("Pop of %v: %v, %v, not %v, %v", p.list, got, ok, want, there)
	}
	p.away(want, there)
	p.same()
}

func (p *pair[T]) swap(v T) {
	p.t.Helper()
	want, there := p.same()
	if got, ok := p.heap.Swap(v); got != want || ok != there {
		p.t.Fatalf("Swap(%v) of %v: %v, %v, not %v, %v", v, p.list, got, ok, want, there)
	}
	p.away(want, there)
	p.list = append(p.list, v)
	p.same()
}

// empty pops till there are none, and twice more.
func (p *pair[T]) empty() {
	p.t.Helper()
	for range len(p.list) + 2 {
		p.pop()
	}
}

// drain stops behind n things, or when there are none left (with 0 then alone); within it, those that were told are there no more.
func (p *pair[T]) drain(n int) {
	p.t.Helper()
	told := 0
	next, ok := p.same()
	for v := range p.heap.Drain() {
		told++
		if v != next || !ok {
			p.t.Fatalf("Drain of %v: %v, not %v", p.list, v, next)
		}
		p.away(v, true)
		next, ok = p.same()
		if told == n {
			break
		}
	}
	if told < n && ok {
		p.t.Fatalf("Drain is done, though %v are there", p.list)
	}
	p.same()
}

// orders of n numbers in which they may be pushed.
func orders(n int) map[string][]int {
	rising, mixed, few, one := make([]int, n), make([]int, n), make([]int, n), make([]int, n)
	next := random()
	for i := range n {
		rising[i], one[i] = i, 7
		few[i] = next(5)
		k := next(i + 1)
		mixed[i] = mixed[k]
		mixed[k] = i
	}
	falling := slices.Clone(rising)
	slices.Reverse(falling)
	return map[string][]int{"rising": rising, "falling": falling, "mixed": mixed, "several times each": few, "one alone": one}
}

// lists of n numbers from 0 to n - 1, all that there are.
func lists(n int) [][]int {
	all := [][]int{{}}
	for range n {
		var longer [][]int
		for _, l := range all {
			for v := range n {
				longer = append(longer, append(slices.Clone(l), v))
			}
		}
		all = longer
	}
	return all
}

// random tells numbers from 0 to n - 1, the same ones in each run.
func random() func(n int) int {
	seed := uint64(6)
	return func(n int) int {
		seed = seed*6364136223846793005 + 1442695040888963407
		return int((seed >> 20) % uint64(n))
	}
}
