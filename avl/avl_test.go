package avl_test

import (
	"cmp"
	"math"
	"slices"
	"strings"
	"testing"

	"groma/avl"
)

// P5.1, P5.2, P5.3: things are put in one order and taken away in another one, and after each step all holds.
func TestPutAndDel(t *testing.T) {
	const n = 130
	for name, puts := range orders(n) {
		for away, dels := range orders(n) {
			t.Run(name+" "+away, func(t *testing.T) {
				p := newPair(t, cmp.Compare[int])
				for _, v := range puts {
					p.put(2 * v)
					p.same()
				}
				for v := -1; v <= 2*n; v++ {
					p.ask(v)
				}
				for _, v := range dels {
					p.del(2 * v)
					p.same()
					p.ask(2 * v)
				}
			})
		}
	}
}

// P5.1, P5.2, P5.3: all trees that few things make, and each thing taken away, where both subtrees are there too.
func TestAllSmall(t *testing.T) {
	for _, puts := range shuffles(7) {
		for v := range 7 {
			p := newPair(t, cmp.Compare[int])
			for _, w := range puts {
				p.put(2 * w)
			}
			p.same()
			p.put(2 * v)
			p.del(2*v + 1)
			p.same()
			p.del(2 * v)
			p.same()
			p.del(2 * v)
			for w := -1; w < 14; w++ {
				p.ask(w)
			}
		}
	}
}

func TestAllSmallToNothing(t *testing.T) {
	all := shuffles(5)
	for _, puts := range all {
		for _, dels := range all {
			p := newPair(t, cmp.Compare[int])
			for _, v := range puts {
				p.put(v)
			}
			for _, v := range dels {
				p.del(v)
				p.same()
			}
		}
	}
}

// P5.1, P5.2: steps of all kinds, with things that are there and that are not.
func TestMixedSteps(t *testing.T) {
	next := random()
	for _, n := range []int{3, 20, 300} {
		p := newPair(t, cmp.Compare[int])
		for range 3000 {
			v := next(n)
			switch next(3) {
			case 0:
				p.put(v)
			case 1:
				p.del(v)
			default:
				p.ask(v)
			}
			p.same()
		}
	}
}

// P5.1, P5.2: without things, all tell a zero one and false.
func TestEmpty(t *testing.T) {
	empty := func(name string, set *avl.Tree[string]) {
		t.Helper()
		for call, ask := range map[string]func() (string, bool){
			"First": set.First,
			"Last":  set.Last,
			"Get":   func() (string, bool) { return set.Get("b") },
			"Next":  func() (string, bool) { return set.Next("a") },
			"Prev":  func() (string, bool) { return set.Prev("c") },
		} {
			if v, ok := ask(); v != "" || ok {
				t.Errorf("%s, %s: %q, %v", name, call, v, ok)
			}
		}
		if set.Len() != 0 || set.Deep() != 0 || !set.Check() || set.Del("b") {
			t.Errorf("%s: Len %d, Deep %d, Check %v", name, set.Len(), set.Deep(), set.Check())
		}
		for v := range set.All() {
			t.Errorf("%s: All tells %q", name, v)
		}
	}
	set := avl.New(strings.Compare)
	empty("new", set)
	if !set.Put("b") || !set.Del("b") {
		t.Errorf("Put or Del: false")
	}
	empty("emptied", set)
	if !set.Put("b") || set.Len() != 1 {
		t.Errorf("what was emptied isn't filled again")
	}
}

// P5.1, P5.2, P5.3: with one thing.
func TestOne(t *testing.T) {
	set := filled(7)
	for _, c := range []struct {
		name string
		ask  func(int) (int, bool)
		v    int
		want int
		ok   bool
	}{
		{"Get the one", set.Get, 7, 7, true},
		{"Get one ahead", set.Get, 6, 0, false},
		{"Get one behind", set.Get, 8, 0, false},
		{"Next ahead of it", set.Next, 6, 7, true},
		{"Next of it", set.Next, 7, 0, false},
		{"Next behind it", set.Next, 8, 0, false},
		{"Prev ahead of it", set.Prev, 6, 0, false},
		{"Prev of it", set.Prev, 7, 0, false},
		{"Prev behind it", set.Prev, 8, 7, true},
	} {
		if v, ok := c.ask(c.v); v != c.want || ok != c.ok {
			t.Errorf("%s: %d, %v", c.name, v, ok)
		}
	}
	if set.Put(7) || set.Del(6) || set.Del(8) || set.Len() != 1 || set.Deep() != 1 || !set.Check() {
		t.Errorf("Len %d, Deep %d, Check %v", set.Len(), set.Deep(), set.Check())
	}
}

// The chapter's examples.
func TestByHand(t *testing.T) {
	set := filled(5, 3, 8)
	if l := slices.Collect(set.All()); !slices.Equal(l, []int{3, 5, 8}) {
		t.Errorf("All: %v", l)
	}
	for _, c := range []struct{ v, next, prev int }{
		{math.MinInt, 3, 0}, {2, 3, 0}, {3, 5, 0}, {4, 5, 3}, {5, 8, 3}, {6, 8, 5}, {8, 0, 5}, {9, 0, 8}, {math.MaxInt, 0, 8},
	} {
		if v, ok := set.Next(c.v); v != c.next || ok != (c.next > 0) {
			t.Errorf("Next(%d): %d, %v", c.v, v, ok)
		}
		if v, ok := set.Prev(c.v); v != c.prev || ok != (c.prev > 0) {
			t.Errorf("Prev(%d): %d, %v", c.v, v, ok)
		}
	}
}

// thing is held against others by its key alone, if at all.
type thing struct {
	key  int
	name string
}

func byKey(a, b thing) int { return cmp.Compare(a.key, b.key) }

// P5.1: of things that are the same to the order the first one that was put is there, till it is taken away.
func TestSameToTheOrder(t *testing.T) {
	set := avl.New(byKey)
	for k := range 50 {
		if !set.Put(thing{k, "first"}) {
			t.Fatalf("Put %d", k)
		}
	}
	for k := range 50 {
		if set.Put(thing{k, "second"}) {
			t.Errorf("Put %d: true, though one is there", k)
		}
		if v, ok := set.Get(thing{k, "asked"}); v != (thing{k, "first"}) || !ok {
			t.Errorf("Get %d: %v, %v", k, v, ok)
		}
		if v, ok := set.Next(thing{k, "asked"}); ok != (k < 49) || ok && v != (thing{k + 1, "first"}) || !ok && v != (thing{}) {
			t.Errorf("Next %d: %v, %v", k, v, ok)
		}
		if v, ok := set.Prev(thing{k, "asked"}); ok != (k > 0) || ok && v != (thing{k - 1, "first"}) || !ok && v != (thing{}) {
			t.Errorf("Prev %d: %v, %v", k, v, ok)
		}
	}
	if !set.Del(thing{20, "third"}) || !set.Put(thing{20, "second"}) {
		t.Errorf("Del or Put: false")
	}
	if v, ok := set.Get(thing{20, ""}); v != (thing{20, "second"}) || !ok {
		t.Errorf("Get: %v, %v", v, ok)
	}
	if set.Len() != 50 || !set.Check() {
		t.Errorf("Len %d, Check %v", set.Len(), set.Check())
	}
}

// P5.1, P5.2, P5.3: whatever the order is, the set is as it tells.
func TestOrders(t *testing.T) {
	for name, order := range map[string]func(a, b int) int{
		"turned about":        func(a, b int) int { return cmp.Compare(b, a) },
		"by tens":             func(a, b int) int { return cmp.Compare(a/10, b/10) },
		"all the same":        func(a, b int) int { return 0 },
		"even ones first":     func(a, b int) int { return cmp.Or(cmp.Compare(a%2, b%2), cmp.Compare(a, b)) },
		"the last sign first": func(a, b int) int { return cmp.Or(cmp.Compare(a%10, b%10), cmp.Compare(b, a)) },
	} {
		t.Run(name, func(t *testing.T) {
			p := newPair(t, order)
			next := random()
			for range 2000 {
				p.put(next(100))
				p.del(next(100))
				p.put(next(100))
				p.ask(next(100))
				p.same()
			}
		})
	}
}

// P5.2: All tells as far as it is asked, and the same again when it is asked again.
func TestAllStopped(t *testing.T) {
	set := filled(orders(40)["mixed"]...)
	all := set.All()
	for stop := range 41 {
		for range 2 {
			var got []int
			asked := 0
			all(func(v int) bool {
				asked++
				if asked <= stop {
					got = append(got, v)
				}
				return asked < stop
			})
			if want := orders(40)["rising"][:max(stop, 1)]; asked != len(want) || !slices.Equal(got, want[:stop]) {
				t.Fatalf("All, stopped after %d: %v, asked %d times", stop, got, asked)
			}
		}
	}
	for v := range all {
		if v == 3 {
			break
		}
		if v > 3 {
			t.Fatalf("All goes on with %d", v)
		}
	}
}

// What is ranged over is told as it is when the loop runs.
func TestAllLate(t *testing.T) {
	set := filled()
	all := set.All()
	set.Put(2)
	set.Put(1)
	if l := slices.Collect(all); !slices.Equal(l, []int{1, 2}) {
		t.Errorf("All: %v", l)
	}
	set.Del(1)
	set.Put(9)
	if l := slices.Collect(all); !slices.Equal(l, []int{2, 9}) {
		t.Errorf("All: %v", l)
	}
}

// P5.3: the bound on the depth, with many things that are put in an order that makes it hard, and with most taken away.
func TestDeep(t *testing.T) {
	for _, n := range []int{1, 2, 3, 4, 7, 8, 100, 1023, 1024, 20000} {
		for name, puts := range orders(n) {
			set := filled(puts...)
			if deep := set.Deep(); !within(deep, n) || !set.Check() {
				t.Errorf("%d things, %s: Deep %d, Check %v", n, name, deep, set.Check())
			}
			for i, v := range puts {
				if i%8 != 0 {
					set.Del(v)
				}
			}
			if deep := set.Deep(); !within(deep, (n+7)/8) || !set.Check() {
				t.Errorf("%d things of %d, %s: Deep %d, Check %v", set.Len(), n, name, deep, set.Check())
			}
		}
	}
	for n, deep := range []int{0, 1, 2, 2, 3, 3, 3} { // so few leave no choice
		for name, puts := range orders(n) {
			if got := filled(puts...).Deep(); got != deep {
				t.Errorf("%d things, %s: Deep %d, not %d", n, name, got, deep)
			}
		}
	}
}

// P5.3: Check tells what is no longer in order.
func TestCheckOrder(t *testing.T) {
	swapped := [2]int{-1, -1}
	key := func(v int) int {
		switch v {
		case swapped[0]:
			return swapped[1]
		case swapped[1]:
			return swapped[0]
		}
		return v
	}
	set := avl.New(func(a, b int) int { return cmp.Compare(key(a), key(b)) })
	for v := range 20 {
		set.Put(v)
	}
	for v := range 19 {
		swapped = [2]int{v, v + 1}
		if set.Check() {
			t.Errorf("Check, when %d stands behind %d: true", v, v+1)
		}
	}
	swapped = [2]int{-1, -1}
	if !set.Check() {
		t.Errorf("Check: false")
	}
	lax := false
	classes := avl.New(func(a, b int) int {
		if lax {
			return cmp.Compare(a/2, b/2)
		}
		return cmp.Compare(a, b)
	})
	for v := range 20 {
		classes.Put(v)
	}
	if lax = true; classes.Check() {
		t.Errorf("Check, when some are the same: true")
	}
}

// What is handed in is not changed, and one set has nothing of another one.
func TestMemory(t *testing.T) {
	order := func(a, b []int) int { return slices.Compare(a, b) }
	set, twin := avl.New(order), avl.New(order)
	var lists [][]int
	for i := range 60 {
		lists = append(lists, append(make([]int, 0, 5), i*7%60, i))
	}
	for i, l := range lists {
		if !set.Put(l) || i%2 == 0 && !twin.Put(l) {
			t.Fatalf("Put %v", l)
		}
	}
	for i, l := range lists {
		set.Get(l)
		set.Next(l)
		set.Prev(l)
		if i%3 != 0 && !set.Del(l) {
			t.Fatalf("Del %v", l)
		}
	}
	for i, l := range lists {
		if !slices.Equal(l[:5], []int{i * 7 % 60, i, 0, 0, 0}) {
			t.Errorf("list %d was changed: %v", i, l[:5])
		}
	}
	if set.Len() != 20 || twin.Len() != 30 || !set.Check() || !twin.Check() {
		t.Errorf("Len %d and %d", set.Len(), twin.Len())
	}
}

// P1: whatever the function tells, each call ends and none panics. Nothing else is promised of what is no order.
func TestNoOrder(t *testing.T) {
	next := random()
	for name, order := range map[string]func(a, b int) int{
		"none":              nil,
		"always ahead":      func(a, b int) int { return -1 },
		"always behind":     func(a, b int) int { return 1 },
		"any answer":        func(a, b int) int { return next(3) - 1 },
		"around in circles": func(a, b int) int { return (a-b+300)%3 - 1 },
		"far beyond":        func(a, b int) int { return []int{math.MinInt, 0, math.MaxInt}[cmp.Compare(a, b)+1] },
	} {
		t.Run(name, func(t *testing.T) {
			set := avl.New(order)
			count := 0
			for range 3000 {
				v := next(40)
				if set.Put(v) {
					count++
				}
				if set.Del(next(40)) {
					count--
				}
				set.Get(v)
				set.First()
				set.Last()
				set.Next(v)
				set.Prev(v)
				set.Check()
			}
			if n := len(slices.Collect(set.All())); n != count || set.Len() != count || !within(set.Deep(), count) {
				t.Errorf("%d things of %d, Len %d, Deep %d", n, count, set.Len(), set.Deep())
			}
		})
	}
}

// An order that tells numbers beyond -1 and 1 is taken by their signs.
func TestSigns(t *testing.T) {
	p := newPair(t, func(a, b int) int { return 3 * (a - b) })
	for _, v := range orders(30)["mixed"] {
		p.put(v)
		p.same()
		p.ask(v)
	}
}
