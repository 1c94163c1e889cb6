package avl_test

import (
	"cmp"
	"math/big"
	"slices"
	"testing"

	"groma/avl"
)

// model is a set as the chapter tells it, kept as a plain list that is gone through from end to end.
type model[T any] struct {
	order func(a, b T) int
	list  []T
}

func (m *model[T]) index(v T) int {
	return slices.IndexFunc(m.list, func(w T) bool { return m.order(v, w) == 0 })
}

func (m *model[T]) put(v T) bool {
	if m.index(v) >= 0 {
		return false
	}
	m.list = append(m.list, v)
	slices.SortFunc(m.list, m.order)
	return true
}

func (m *model[T]) del(v T) bool {
	i := m.index(v)
	if i >= 0 {
		m.list = slices.Delete(m.list, i, i+1)
	}
	return i >= 0
}

// told is the thing at i, if there is one.
func (m *model[T]) told(i int) (v T, ok bool) {
	if i < 0 || i >= len(m.list) {
		return v, false
	}
	return m.list[i], true
}

func (m *model[T]) next(v T) (T, bool) {
	i := slices.IndexFunc(m.list, func(w T) bool { return m.order(v, w) < 0 })
	return m.told(i)
}

func (m *model[T]) prev(v T) (T, bool) {
	n := 0
	for _, w := range m.list {
		if m.order(w, v) < 0 {
			n++
		}
	}
	return m.told(n - 1)
}

// pair is a set and what it should be.
type pair[T comparable] struct {
	t    *testing.T
	set  *avl.Tree[T]
	want *model[T]
}

func newPair[T comparable](t *testing.T, order func(a, b T) int) pair[T] {
	t.Helper()
	p := pair[T]{t, avl.New(order), &model[T]{order: order}}
	p.same()
	return p
}

func (p pair[T]) put(v T) {
	p.t.Helper()
	if got, want := p.set.Put(v), p.want.put(v); got != want {
		p.t.Fatalf("Put(%v) to %v: %v", v, p.want.list, got)
	}
}

func (p pair[T]) del(v T) {
	p.t.Helper()
	if got, want := p.set.Del(v), p.want.del(v); got != want {
		p.t.Fatalf("Del(%v), of which is left %v: %v", v, p.want.list, got)
	}
}

// same holds what the set tells of itself against what it should.
func (p pair[T]) same() {
	p.t.Helper()
	list := p.want.list
	if got := slices.Collect(p.set.All()); !slices.Equal(got, list) {
		p.t.Fatalf("All: %v, not %v", got, list)
	}
	if got := p.set.Len(); got != len(list) {
		p.t.Fatalf("Len: %d, not %d", got, len(list))
	}
	if !p.set.Check() {
		p.t.Fatalf("Check of %v: false", list)
	}
	if deep := p.set.Deep(); !within(deep, len(list)) {
		p.t.Fatalf("Deep of %d things: %d", len(list), deep)
	}
	first, ok := p.set.First()
	p.holds("First", first, ok, 0)
	last, ok := p.set.Last()
	p.holds("Last", last, ok, len(list)-1)
}

func (p pair[T]) holds(call string, got T, ok bool, i int) {
	p.t.Helper()
	if want, there := p.want.told(i); got != want || ok != there {
		p.t.Fatalf("%s of %v: %v, %v", call, p.want.list, got, ok)
	}
}

// ask holds what the set tells as to v against what it should.
func (p pair[T]) ask(v T) {
	p.t.Helper()
	got, ok := p.set.Get(v)
	p.holds("Get", got, ok, p.want.index(v))
	if got, ok := p.set.Next(v); true {
		if want, there := p.want.next(v); got != want || ok != there {
			p.t.Fatalf("Next(%v) in %v: %v, %v", v, p.want.list, got, ok)
		}
	}
	if got, ok := p.set.Prev(v); true {
		if want, there := p.want.prev(v); got != want || ok != there {
			p.t.Fatalf("Prev(%v) in %v: %v, %v", v, p.want.list, got, ok)
		}
	}
}

// within is the chapter's bound from above, and from below that a tree so deep has room for so many.
func within(deep, n int) bool {
	if deep < 0 || deep > 60 || (deep == 0) != (n == 0) {
		return false
	}
	high := new(big.Int).Exp(big.NewInt(int64(n+2)), big.NewInt(145), nil)
	low := new(big.Int).Lsh(big.NewInt(1), uint(100*deep))
	return low.Cmp(high) <= 0 && n <= 1<<deep-1
}

// orders of n numbers in which they may be put: rising, falling, mixed, and from the middle outwards and back.
func orders(n int) map[string][]int {
	rising := make([]int, n)
	mixed := make([]int, n)
	outwards := make([]int, n)
	for i := range n {
		rising[i] = i
		mixed[i] = i
		outwards[i] = n/2 + (i+1)/2*(1-2*(i%2)) // n/2, then one less, one more, two less ..
	}
	next := random()
	for i := n - 1; i > 0; i-- {
		k := next(i + 1)
		mixed[i], mixed[k] = mixed[k], mixed[i]
	}
	falling := slices.Clone(rising)
	slices.Reverse(falling)
	inwards := slices.Clone(outwards)
	slices.Reverse(inwards)
	return map[string][]int{"rising": rising, "falling": falling, "mixed": mixed, "outwards": outwards, "inwards": inwards}
}

// shuffles goes through all orders of the numbers from 0 to n - 1.
func shuffles(n int) [][]int {
	all := [][]int{{}}
	for v := range n {
		var longer [][]int
		for _, l := range all {
			for i := range len(l) + 1 {
				longer = append(longer, slices.Insert(slices.Clone(l), i, v))
			}
		}
		all = longer
	}
	return all
}

// random tells numbers from 0 to n - 1, the same ones in each run.
func random() func(n int) int {
	seed := uint64(5)
	return func(n int) int {
		seed = seed*6364136223846793005 + 1442695040888963407
		return int((seed >> 20) % uint64(n))
	}
}

func filled(l ...int) *avl.Tree[int] {
	set := avl.New(cmp.Compare[int])
	for _, v := range l {
		set.Put(v)
	}
	return set
}
