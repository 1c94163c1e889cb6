package point_test

import (
	"math"
	"math/big"
	"slices"
	"testing"

	"groma/api"
	"groma/point"
	"groma/wide"
)

// same holds an area against the number that is asked for, word by word of its text.
func same(t *testing.T, l []point.Point, want *big.Int) {
	t.Helper()
	if got, ok := point.Area(l); !ok || got.Text() != want.String() {
		t.Errorf("Area of %d points: %s, %v, want %v", len(l), got.Text(), ok, want)
	}
}

// ways tells ways of 0 to 7 points: on a small grid, where they often cross, touch and lie on themselves, and between the limits.
func ways(f func(l []point.Point, far bool)) {
	next, edge := random(), corners()
	for i := range 6000 {
		l := make([]point.Point, i%8)
		for j := range l {
			if i%3 == 0 {
				l[j] = edge[next(len(edge))]
			} else {
				l[j] = at(next(4), next(4))
			}
		}
		f(l, i%3 == 0)
	}
}

// around has the corners of the square between the limits, so often in turn, to the left.
func around(times int) []point.Point {
	var l []point.Point
	for range times {
		l = append(l, at(-far, -far), at(far, -far), at(far, far), at(-far, far))
	}
	return l
}

// bent has n points, no three on one line, all of them corners of their hull.
func bent(n int) []point.Point {
	l := make([]point.Point, n)
	for i := range l {
		l[i] = at(i, i*i)
	}
	return l
}

// swapped has the points in the other order.
func swapped(l []point.Point) []point.Point {
	l = slices.Clone(l)
	slices.Reverse(l)
	return l
}

// refused asks the three calls for their refusal of l, with the zero values beside it.
func refused(t *testing.T, what string, l []point.Point) {
	t.Helper()
	if a, ok := point.Area(l); ok || a != (wide.Int{}) {
		t.Errorf("Area of %s: %s, %v", what, a.Text(), ok)
	}
	for _, p := range []point.Point{at(0, 0), at(1, 2), at(far, far)} {
		if n, on, ok := point.Winds(l, p); n != 0 || on || ok {
			t.Errorf("Winds of %s: %d, %v, %v", what, n, on, ok)
		}
	}
	if h, ok := point.Hull(l); ok || len(h) != 0 {
		t.Errorf("Hull of %s: %v, %v", what, h, ok)
	}
}

// P3.4: Area, by the sum that the chapter tells.
func TestArea(t *testing.T) {
	ways(func(l []point.Point, _ bool) {
		want := new(big.Int)
		for i, a := range l {
			b := l[(i+1)%len(l)]
			want = plus(want, minus(times(number(a.X), number(b.Y)), times(number(b.X), number(a.Y))))
		}
		same(t, l, want)
	})
}

// P3.4: Area, by hand.
func TestAreaByHand(t *testing.T) {
	square := new(big.Int).Lsh(big.NewInt(1), 85) // twice (2^42)^2
	for _, c := range []struct {
		l    []point.Point
		want *big.Int
	}{
		{nil, number(0)}, {[]point.Point{}, number(0)}, {[]point.Point{at(5, 7)}, number(0)}, {[]point.Point{at(5, 7), at(-3, 4)}, number(0)}, {[]point.Point{at(5, 7), at(5, 7), at(5, 7)}, number(0)},
		{[]point.Point{at(0, 0), at(3, 0), at(3, 2), at(0, 2)}, number(12)}, {[]point.Point{at(0, 2), at(3, 2), at(3, 0), at(0, 0)}, number(-12)},
		{[]point.Point{at(10, 10), at(11, 10), at(10, 11)}, number(1)}, {[]point.Point{at(-10, -10), at(-10, -9), at(-9, -10)}, number(-1)},
		{[]point.Point{at(0, 0), at(2, 2), at(2, 0), at(0, 2)}, number(0)}, {[]point.Point{at(0, 0), at(1, 1), at(5, 5)}, number(0)}, // a way that crosses itself, and one along a line
		{around(1), square}, {swapped(around(1)), times(number(-1), square)}, {around(api.MaxPoints / 4), times(number(api.MaxPoints/4), square)},
	} {
		same(t, c.l, c.want)
	}
}

// P3.4, P3.5, P3.6: as many points as may be, and one more.
func TestMostPoints(t *testing.T) {
	l := bent(api.MaxPoints)
	if h, ok := point.Hull(l); !ok || !slices.Equal(h, l) {
		t.Errorf("Hull: %d points, %v", len(h), ok)
	}
	if n, on, ok := point.Winds(l, at(2, 5)); n != 1 || on || !ok {
		t.Errorf("Winds: %d, %v, %v", n, on, ok)
	}
	if a, ok := point.Area(l); !ok || a.Sign() != 1 {
		t.Errorf("Area: %s, %v", a.Text(), ok)
	}
	refused(t, "one point too many", bent(api.MaxPoints+1))
	refused(t, "a point too many, all the same", make([]point.Point, api.MaxPoints+1))
	refused(t, "twice as many points", make([]point.Point, 2*api.MaxPoints))
	if h, ok := point.Hull(make([]point.Point, api.MaxPoints)); !ok || !slices.Equal(h, []point.Point{{}}) {
		t.Errorf("Hull of one point: %v, %v", h, ok)
	}
}

// P3.4, P3.5, P3.6: a point that isn't right, wherever it stands.
func TestWrongPoints(t *testing.T) {
	for _, p := range wrong() {
		refused(t, "one wrong point", []point.Point{p})
		refused(t, "wrong points", []point.Point{p, p, p})
		for i := range 4 {
			l := []point.Point{at(0, 0), at(3, 0), at(3, 3), at(0, 3)}
			l[i] = p
			refused(t, "a square with a wrong point", l)
		}
		l := bent(api.MaxPoints)
		l[len(l)-1] = p
		refused(t, "many points and a wrong one", l)
		for _, l := range [][]point.Point{nil, {at(0, 0)}, {p}, {at(0, 0), at(3, 0), at(0, 3)}, around(1)} {
			if n, on, ok := point.Winds(l, p); n != 0 || on || ok {
				t.Errorf("Winds of %v, %v: %d, %v, %v", l, p, n, on, ok)
			}
		}
	}
}

// winds asks of the angles under which the segments are seen, which a float tells well enough on a small grid.
func winds(l []point.Point, p point.Point) (int, bool) {
	sum := 0.0
	for i, a := range l {
		b := l[(i+1)%len(l)]
		if on(a, b, p) {
			return 0, true
		}
		ax, ay, bx, by := float64(a.X-p.X), float64(a.Y-p.Y), float64(b.X-p.X), float64(b.Y-p.Y)
		sum += math.Atan2(ax*by-ay*bx, ax*bx+ay*by)
	}
	return int(math.Round(sum / (2 * math.Pi))), false
}

// P3.5: Winds, on a small grid, around each of its points and some beside it.
func TestWinds(t *testing.T) {
	seen := map[int]int{}
	ways(func(l []point.Point, far bool) {
		if far {
			return
		}
		for _, p := range append(grid(4), at(-1, 2), at(4, 1), at(2, 9), at(1, -3)) {
			want, is := winds(l, p)
			n, on, ok := point.Winds(l, p)
			if n != want || on != is || !ok {
				t.Fatalf("Winds of %v, %v: %d, %v, %v, want %d, %v", l, p, n, on, ok, want, is)
			}
			seen[n]++
		}
	})
	for n := -2; n <= 2; n++ {
		if seen[n] == 0 {
			t.Errorf("none winds %d times", n)
		}
	}
}

// P3.5: Winds, between the limits: turning the plane a quarter changes nothing, mirroring it or going the other way changes the sign.
func TestWindsTurned(t *testing.T) {
	inside := 0
	ways(func(l []point.Point, far bool) {
		if !far {
			return
		}
		for _, p := range []point.Point{at(0, 0), at(1, 1), at(api.MaxCell-2, 1), at(-api.MaxCell/3, api.MaxCell/5)} {
			n, on, ok := point.Winds(l, p)
			for range 3 {
				l, p = slices.Clone(l), at(-p.Y, p.X)
				for i, q := range l {
					l[i] = at(-q.Y, q.X)
				}
				if m, is, fine := point.Winds(l, p); m != n || is != on || !ok || !fine {
					t.Fatalf("Winds of %v, %v: %d, %v, %v, want %d, %v", l, p, m, is, fine, n, on)
				}
			}
			if m, is, fine := point.Winds(swapped(l), p); m != -n || is != on || !fine {
				t.Fatalf("Winds of %v, swapped, %v: %d, %v, %v", l, p, m, is, fine)
			}
			if n != 0 {
				inside++
			}
		}
	})
	if inside == 0 {
		t.Errorf("none winds around")
	}
}

// P3.5: Winds, by hand.
func TestWindsByHand(t *testing.T) {
	square := []point.Point{at(0, 0), at(4, 0), at(4, 4), at(0, 4)}
	eight := []point.Point{at(0, 0), at(4, 4), at(4, 0), at(0, 4)}
	star := []point.Point{at(0, 10), at(-6, -8), at(9, 3), at(-9, 3), at(6, -8)}
	saw := []point.Point{at(0, 0), at(2, 2), at(4, 0), at(6, 2), at(8, 0), at(8, 4), at(0, 4)}
	for _, c := range []struct {
		l  []point.Point
		p  point.Point
		n  int
		on bool
	}{
		{nil, at(0, 0), 0, false}, {[]point.Point{}, at(0, 0), 0, false}, {nil, at(far, -far), 0, false},
		{[]point.Point{at(3, 3)}, at(3, 3), 0, true}, {[]point.Point{at(3, 3)}, at(3, 4), 0, false}, {[]point.Point{at(3, 3)}, at(2, 3), 0, false}, {[]point.Point{at(3, 3), at(3, 3)}, at(3, 3), 0, true},
		{[]point.Point{at(0, 0), at(4, 2)}, at(2, 1), 0, true}, {[]point.Point{at(0, 0), at(4, 2)}, at(4, 2), 0, true}, {[]point.Point{at(0, 0), at(4, 2)}, at(1, 1), 0, false}, {[]point.Point{at(0, 0), at(4, 2)}, at(6, 3), 0, false},
		{square, at(1, 1), 1, false}, {swapped(square), at(1, 1), -1, false}, {square, at(5, 1), 0, false}, {square, at(-1, 1), 0, false}, {square, at(-1, 0), 0, false}, {square, at(-1, 4), 0, false}, {square, at(1, 5), 0, false}, {square, at(1, -1), 0, false},
		{square, at(0, 0), 0, true}, {square, at(4, 2), 0, true}, {square, at(0, 3), 0, true}, {square, at(2, 4), 0, true}, {square, at(2, 0), 0, true}, // on the last segment too, from the last point to the first
		{append(square, square...), at(1, 1), 2, false}, {append(square, swapped(square)...), at(1, 1), 0, false}, {append(square, at(0, 0)), at(1, 1), 1, false},
		{eight, at(3, 2), -1, false}, {eight, at(1, 2), 1, false}, {eight, at(2, 2), 0, true}, {eight, at(2, 3), 0, false},
		{star, at(0, 0), 2, false}, {swapped(star), at(0, 0), -2, false}, {star, at(0, 6), 1, false}, {star, at(9, 9), 0, false}, {star, at(0, -8), 0, false},
		{saw, at(-3, 2), 0, false}, {saw, at(-3, 0), 0, false}, {saw, at(1, 2), 1, false}, {saw, at(4, 2), 1, false}, {saw, at(2, 1), 0, false}, {saw, at(5, 2), 1, false},
		{around(1), at(0, 0), 1, false}, {around(1), at(far, 0), 0, true}, {around(1), at(far, far), 0, true}, {around(1), at(far-1, 1-far), 1, false}, {around(api.MaxPoints / 4), at(1, 1), api.MaxPoints / 4, false}, {swapped(around(api.MaxPoints / 4)), at(1, 1), -api.MaxPoints / 4, false},
		{[]point.Point{at(-far, -far), at(far, far), at(-far, far)}, at(0, 1), 1, false}, {[]point.Point{at(-far, -far), at(far, far), at(-far, far)}, at(1, 0), 0, false}, {[]point.Point{at(-far, -far), at(far, far), at(-far, far)}, at(0, 0), 0, true},
	} {
		if n, on, ok := point.Winds(c.l, c.p); n != c.n || on != c.on || !ok {
			t.Errorf("Winds of %v, %v: %d, %v, %v", c.l, c.p, n, on, ok)
		}
	}
}

// corner: does p lie neither between two others nor within three?
func corner(l []point.Point, p point.Point) bool {
	for _, a := range l {
		for _, b := range l {
			if a == p || b == p {
				continue
			}
			if on(a, b, p) {
				return false
			}
			for _, c := range l {
				if c != p && in(a, b, c, p) >= 0 {
					return false
				}
			}
		}
	}
	return true
}

// hull has the corners, in order, and each of them behind the one from which all others lie to the left.
func hull(l []point.Point) []point.Point {
	var rest, told []point.Point
	for _, p := range l {
		if corner(l, p) && !slices.Contains(rest, p) {
			rest = append(rest, p)
		}
	}
	for len(rest) > 0 {
		best := 0
		for i, p := range rest {
			if len(told) == 0 {
				if b := rest[best]; p.X < b.X || p.X == b.X && p.Y < b.Y {
					best = i
				}
			} else if turn(told[len(told)-1], rest[best], p).Sign() < 0 {
				best = i
			}
		}
		told = append(told, rest[best])
		rest = slices.Delete(rest, best, best+1)
	}
	return told
}

// P3.6: Hull.
func TestHull(t *testing.T) {
	ways(func(l []point.Point, _ bool) {
		if h, ok := point.Hull(l); !ok || !slices.Equal(h, hull(l)) {
			t.Fatalf("Hull of %v: %v, %v, want %v", l, h, ok, hull(l))
		}
	})
}

// P3.6: Hull, by hand.
func TestHullByHand(t *testing.T) {
	for _, c := range []struct{ l, want []point.Point }{
		{nil, nil}, {[]point.Point{}, nil}, {[]point.Point{at(3, 3)}, []point.Point{at(3, 3)}}, {[]point.Point{at(3, 3), at(3, 3), at(3, 3)}, []point.Point{at(3, 3)}},
		{[]point.Point{at(3, 3), at(1, 9)}, []point.Point{at(1, 9), at(3, 3)}}, {[]point.Point{at(1, 9), at(1, 3), at(1, 9)}, []point.Point{at(1, 3), at(1, 9)}},
		{[]point.Point{at(2, 2), at(0, 0), at(3, 3), at(1, 1)}, []point.Point{at(0, 0), at(3, 3)}}, {[]point.Point{at(1, 5), at(1, 2), at(1, 9)}, []point.Point{at(1, 2), at(1, 9)}}, {[]point.Point{at(5, 1), at(2, 1), at(9, 1)}, []point.Point{at(2, 1), at(9, 1)}},
		{[]point.Point{at(0, 0), at(0, 4), at(4, 0)}, []point.Point{at(0, 0), at(4, 0), at(0, 4)}},
		{grid(3), []point.Point{at(0, 0), at(2, 0), at(2, 2), at(0, 2)}}, {swapped(grid(3)), []point.Point{at(0, 0), at(2, 0), at(2, 2), at(0, 2)}},
		{[]point.Point{at(0, 1), at(1, 0), at(2, 1), at(1, 2), at(1, 1)}, []point.Point{at(0, 1), at(1, 0), at(2, 1), at(1, 2)}},
		{append(around(3), at(far, 0), at(0, 0)), around(1)}, {[]point.Point{at(far, far), at(0, 0), at(-far, -far), at(1, 1)}, []point.Point{at(-far, -far), at(far, far)}},
		{[]point.Point{at(far, far), at(0, 1), at(-far, -far), at(0, 0)}, []point.Point{at(-far, -far), at(far, far), at(0, 1)}},
	} {
		if h, ok := point.Hull(c.l); !ok || !slices.Equal(h, c.want) {
			t.Errorf("Hull of %v: %v, %v", c.l, h, ok)
		}
	}
}

// roomy has a list's points, and room for more of them behind it.
func roomy(l []point.Point) (list, all []point.Point) {
	all = append(slices.Clone(l), at(71, 72), at(73, 74), at(75, 76))
	return all[:len(l)], all
}

// P3.4, P3.5, P3.6: what is handed in, and the room behind it, is neither changed nor told again.
func TestHandedIn(t *testing.T) {
	for _, l := range [][]point.Point{nil, {at(1, 1)}, {at(2, 2), at(1, 1)}, {at(1, 1), at(1, 1)}, {at(0, 0), at(3, 0), at(0, 3)}, swapped(grid(3)), bent(50), swapped(bent(50))} {
		list, all := roomy(l)
		kept := slices.Clone(all)
		point.Area(list)
		point.Winds(list, at(1, 1))
		first, _ := point.Hull(list)
		second, _ := point.Hull(list)
		told := slices.Clone(second)
		first = first[:cap(first)]
		for i := range first {
			first[i] = at(-7, -7)
		}
		if !slices.Equal(all, kept) {
			t.Errorf("%v was changed: %v", kept, all)
		}
		if !slices.Equal(second, told) {
			t.Errorf("two hulls of %v share memory", kept)
		}
		for i := range all {
			all[i] = at(-8, -8)
		}
		if !slices.Equal(second, told) {
			t.Errorf("a hull shares memory with what was handed in: %v", second)
		}
	}
}
