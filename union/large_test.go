package union_test

import (
	"slices"
	"testing"

	"groma/api"
	"groma/union"
)

const most = 1 << 20

// joined is sets of so many numbers, joined that way.
func joined(t *testing.T, n, steps int, way func(i int) (int, int)) *union.Sets {
	t.Helper()
	s := union.New(n)
	for i := range steps {
		if ok, e := s.Join(way(i)); !ok || e != api.OK {
			t.Fatalf("Join in step %d: %v, %d", i, ok, e)
		}
		if s.Count() != n-i-1 {
			t.Fatalf("Count behind step %d: %d", i, s.Count())
		}
	}
	return s
}

// P8.1, P8.2: as many numbers as may be, each one a set by itself.
func TestLargeSingle(t *testing.T) {
	s := union.New(most)
	if s.Len() != most || s.Count() != most || !s.Same(most-1, most-1) || s.Same(most-2, most-1) || s.Same(most, most) {
		t.Errorf("Len %d, Count %d", s.Len(), s.Count())
	}
	if least, e := s.Least(most - 1); least != most-1 || e != api.OK || s.Size(most-1) != 1 {
		t.Errorf("Least %d, %d, Size %d", least, e, s.Size(most-1))
	}
	if least, e := s.Least(most); least != 0 || e != api.ErrRange || s.Size(most) != 0 {
		t.Errorf("Least beyond %d, %d, Size %d", least, e, s.Size(most))
	}
	next := 0
	for group := range s.Groups() {
		if !slices.Equal(group, []int{next}) {
			t.Fatalf("the set at %d: %v", next, group)
		}
		next++
	}
	for a, n := range s.Numbers() {
		if n != a {
			t.Fatalf("the number of %d: %d", a, n)
		}
	}
	if next != most {
		t.Errorf("%d sets", next)
	}
}

// P8.1, P8.2: as many numbers as may be, joined in whatever order till all are one set.
func TestLargeOne(t *testing.T) {
	for name, way := range map[string]func(i int) (int, int){
		"rising":          func(i int) (int, int) { return i, i + 1 },
		"rising, turned":  func(i int) (int, int) { return i + 1, i },
		"falling":         func(i int) (int, int) { return most - 1 - i, most - 2 - i },
		"falling, turned": func(i int) (int, int) { return most - 2 - i, most - 1 - i },
		"to the greatest": func(i int) (int, int) { return i, most - 1 },
		"mixed":           func(i int) (int, int) { return i * 77773 % most, (i + 1) * 77773 % most },
		"two as great": func(i int) (int, int) { // the step of i doubles whenever half of what is left is done
			step := 1
			for left := most / 2; i >= left; left /= 2 {
				i, step = i-left, 2*step
			}
			return 2*i*step + step, 2 * i * step
		},
	} {
		t.Run(name, func(t *testing.T) {
			s := joined(t, most, most-1, way)
			for a := range most {
				least, e := s.Least(a)
				if least != 0 || e != api.OK || s.Size(a) != most || !s.Same(a, 0) || !s.Same(most-1, a) {
					t.Fatalf("%d: Least %d, %d, Size %d", a, least, e, s.Size(a))
				}
			}
			groups := slices.Collect(s.Groups())
			if len(groups) != 1 || len(groups[0]) != most || groups[0][0] != 0 || groups[0][most-1] != most-1 || !slices.IsSorted(groups[0]) {
				t.Errorf("%d groups", len(groups))
			}
			if ok, e := s.Join(0, most-1); ok || e != api.OK || s.Count() != 1 {
				t.Errorf("Join of what is one: %v, %d", ok, e)
			}
			if ok, e := s.Join(0, most); ok || e != api.ErrRange || s.Count() != 1 {
				t.Errorf("Join with one beyond: %v, %d", ok, e)
			}
			if slices.Max(s.Numbers()) != 0 {
				t.Error("Numbers")
			}
		})
	}
}

// P8.2: three large sets, of each third number.
func TestLargeThirds(t *testing.T) {
	const n = 3<<16 + 1
	s := joined(t, n, n-3, func(i int) (int, int) { return n - 1 - i, n - 4 - i })
	sizes := []int{1<<16 + 1, 1 << 16, 1 << 16}
	for a, number := range s.Numbers() {
		least, e := s.Least(a)
		if number != a%3 || least != a%3 || e != api.OK || s.Size(a) != sizes[a%3] || s.Same(a, (a+1)%n) != (a == n-1) {
			t.Fatalf("%d: number %d, Least %d, %d, Size %d", a, number, least, e, s.Size(a))
		}
	}
	groups := slices.Collect(s.Groups())
	if len(groups) != 3 {
		t.Fatalf("%d groups", len(groups))
	}
	for first, group := range groups {
		for i, a := range group {
			if a != first+3*i || len(group) != sizes[first] {
				t.Fatalf("the set of %d has %d numbers, at %d: %d", first, len(group), i, a)
			}
		}
	}
}

// P8.2: one large set, of all even numbers, among many single ones.
func TestLargeAmongSingle(t *testing.T) {
	const n = 1 << 17
	s := joined(t, n, n/2-1, func(i int) (int, int) { return 2*i + 2, 2 * i })
	groups := slices.Collect(s.Groups())
	if len(groups) != 1+n/2 || len(groups[0]) != n/2 {
		t.Fatalf("%d groups", len(groups))
	}
	numbers := s.Numbers()
	for i := range n / 2 {
		odd := 2*i + 1
		if groups[0][i] != 2*i || !slices.Equal(groups[i+1], []int{odd}) {
			t.Fatalf("the sets at %d: %d, %v", i, groups[0][i], groups[i+1])
		}
		if least, e := s.Least(odd); numbers[2*i] != 0 || numbers[odd] != i+1 || least != odd || e != api.OK || s.Size(odd) != 1 || s.Size(2*i) != n/2 {
			t.Fatalf("%d: numbers %d, %d, Least %d, %d", odd, numbers[2*i], numbers[odd], least, e)
		}
	}
}
