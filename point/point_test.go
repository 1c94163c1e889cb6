package point_test

import (
	"math"
	"math/big"
	"testing"

	"groma/api"
	"groma/point"
)

const far = api.MaxCell

func at(x, y int) point.Point { return point.Point{X: x, Y: y} }

// wrong are points that are not right, each by another coordinate and side, just beyond the limit or far beyond.
func wrong() []point.Point {
	return []point.Point{
		at(far+1, 0), at(-far-1, 0), at(0, far+1), at(0, -far-1), at(far+1, far+1), at(far, -far-1),
		at(math.MaxInt, 0), at(math.MinInt, 0), at(0, math.MaxInt), at(0, math.MinInt), at(math.MinInt, math.MaxInt),
	}
}

// What is asked for is worked out with math/big, so that no call of the program is trusted.
func number(n int) *big.Int        { return big.NewInt(int64(n)) }
func plus(a, b *big.Int) *big.Int  { return new(big.Int).Add(a, b) }
func minus(a, b *big.Int) *big.Int { return new(big.Int).Sub(a, b) }
func times(a, b *big.Int) *big.Int { return new(big.Int).Mul(a, b) }
func across(a, b, c, d int) *big.Int {
	return times(minus(number(a), number(b)), minus(number(c), number(d)))
}

// turn is the chapter's number.
func turn(a, b, c point.Point) *big.Int {
	return minus(across(b.X, a.X, c.Y, a.Y), across(b.Y, a.Y, c.X, a.X))
}

// random tells numbers from 0 to n - 1, the same ones in each run.
func random() func(n int) int {
	seed := uint64(3)
	return func(n int) int {
		seed = seed*6364136223846793005 + 1442695040888963407
		return int((seed >> 20) % uint64(n))
	}
}

// grid has the points with coordinates from 0 to n - 1.
func grid(n int) []point.Point {
	var l []point.Point
	for x := range n {
		for y := range n {
			l = append(l, at(x, y))
		}
	}
	return l
}

// corners are points at the limits and beside them, and some in the middle.
func corners() []point.Point {
	var l []point.Point
	for _, x := range []int{-far, -far + 1, 0, 1, far - 1, far} {
		for _, y := range []int{-far, 0, far - 1, far} {
			l = append(l, at(x, y))
		}
	}
	return l
}

// fours go through all fours of a small grid, and through some of those between the limits.
func fours(f func(a, b, c, d point.Point)) {
	small := grid(3)
	for _, a := range small {
		for _, b := range small {
			for _, c := range small {
				for _, d := range small {
					f(a, b, c, d)
				}
			}
		}
	}
	next, edge := random(), corners()
	for range 4000 {
		f(edge[next(len(edge))], edge[next(len(edge))], edge[next(len(edge))], edge[next(len(edge))])
		any := func() point.Point { return at(next(2*far+1)-far, next(2*far+1)-far) }
		f(any(), any(), any(), any())
	}
}

// P3.1: Right, at the limits and past them.
func TestRight(t *testing.T) {
	for _, p := range append(corners(), at(0, 0), at(far, far), at(-far, -far), at(far, -far), at(-far, far)) {
		if !p.Right() {
			t.Errorf("%v is right", p)
		}
	}
	for _, p := range wrong() {
		if p.Right() {
			t.Errorf("%v isn't right", p)
		}
	}
}

// P3.1: Cmp, of any points, those too that are not right and whose coordinates differ by more than an int.
func TestCmp(t *testing.T) {
	l := append(append(corners(), wrong()...), at(math.MaxInt, math.MinInt), at(math.MinInt, math.MinInt), at(math.MaxInt, math.MaxInt))
	for _, p := range l {
		for _, q := range l {
			want := 1
			if p == q {
				want = 0
			} else if p.X < q.X || p.X == q.X && p.Y < q.Y {
				want = -1
			}
			if got := p.Cmp(q); got != want {
				t.Errorf("Cmp of %v and %v: %d", p, q, got)
			}
		}
	}
}

// P3.1: Cmp, by hand.
func TestCmpByHand(t *testing.T) {
	for _, c := range []struct {
		p, q point.Point
		want int
	}{
		{at(1, 5), at(2, 0), -1}, {at(2, 0), at(1, 5), 1}, {at(1, 4), at(1, 5), -1}, {at(1, 5), at(1, 4), 1}, {at(1, 5), at(1, 5), 0},
		{at(math.MinInt, 0), at(math.MaxInt, 0), -1}, {at(0, math.MaxInt), at(0, math.MinInt), 1}, {at(math.MaxInt, 7), at(math.MaxInt, 7), 0},
	} {
		if got := c.p.Cmp(c.q); got != c.want {
			t.Errorf("Cmp of %v and %v: %d", c.p, c.q, got)
		}
	}
}

// P3.1: Turn.
func TestTurn(t *testing.T) {
	fours(func(a, b, c, _ point.Point) {
		if got, want := point.Turn(a, b, c), turn(a, b, c).Sign(); got != want {
			t.Fatalf("Turn of %v, %v, %v: %d", a, b, c, got)
		}
	})
}

// P3.1: Turn, by hand: on one line, with points that are the same, at the limits a hair beside the line, and refused.
func TestTurnByHand(t *testing.T) {
	for _, c := range []struct {
		a, b, c point.Point
		want    int
	}{
		{at(0, 0), at(1, 0), at(0, 1), 1}, {at(0, 0), at(0, 1), at(1, 0), -1}, {at(0, 0), at(1, 1), at(5, 5), 0}, {at(5, 5), at(-1, -1), at(2, 2), 0},
		{at(3, 4), at(3, 4), at(1, 2), 0}, {at(3, 4), at(1, 2), at(3, 4), 0}, {at(1, 2), at(3, 4), at(3, 4), 0}, {at(3, 4), at(3, 4), at(3, 4), 0},
		{at(-far, -far), at(far, far), at(0, 0), 0}, {at(-far, -far), at(far, far), at(0, 1), 1}, {at(-far, -far), at(far, far), at(1, 0), -1},
		{at(-far, -far), at(far, far), at(far-1, far), 1}, {at(-far, -far), at(far, -far), at(far, far), 1}, {at(-far, far), at(far, far), at(far, -far), -1},
		{at(-far, -far), at(far, far-1), at(far-1, far-2), -1}, {at(-far, -far), at(far-1, far), at(far-2, far-1), 1},
	} {
		if got := point.Turn(c.a, c.b, c.c); got != c.want {
			t.Errorf("Turn of %v, %v, %v: %d", c.a, c.b, c.c, got)
		}
	}
	for _, p := range wrong() {
		for _, l := range [][3]point.Point{{p, at(5, 7), at(1, 3)}, {at(5, 7), p, at(1, 3)}, {at(5, 7), at(1, 3), p}, {p, p, p}} {
			if got := point.Turn(l[0], l[1], l[2]); got != 0 {
				t.Errorf("Turn of %v: %d", l, got)
			}
		}
	}
}

// on asks of the numbers: on the line, and in the box around the ends.
func on(a, b, p point.Point) bool {
	return turn(a, b, p).Sign() == 0 && min(a.X, b.X) <= p.X && p.X <= max(a.X, b.X) && min(a.Y, b.Y) <= p.Y && p.Y <= max(a.Y, b.Y)
}

// P3.1: On.
func TestOn(t *testing.T) {
	fours(func(a, b, p, _ point.Point) {
		if got := point.On(a, b, p); got != on(a, b, p) {
			t.Fatalf("On of %v, %v, %v: %v", a, b, p, got)
		}
	})
}

// P3.1: On, by hand.
func TestOnByHand(t *testing.T) {
	for _, c := range []struct {
		a, b, p point.Point
		want    bool
	}{
		{at(0, 0), at(4, 2), at(2, 1), true}, {at(4, 2), at(0, 0), at(2, 1), true}, {at(0, 0), at(4, 2), at(0, 0), true}, {at(0, 0), at(4, 2), at(4, 2), true},
		{at(0, 0), at(4, 2), at(6, 3), false}, {at(0, 0), at(4, 2), at(-2, -1), false}, {at(0, 0), at(4, 2), at(2, 2), false}, {at(0, 0), at(4, 2), at(2, 0), false},
		{at(1, 0), at(1, 5), at(1, 3), true}, {at(1, 0), at(1, 5), at(1, 6), false}, {at(1, 0), at(1, 5), at(1, -1), false}, {at(0, 1), at(5, 1), at(6, 1), false}, {at(5, 1), at(0, 1), at(3, 1), true},
		{at(0, 4), at(4, 0), at(1, 3), true}, {at(0, 4), at(4, 0), at(5, -1), false}, {at(0, 4), at(4, 0), at(-1, 5), false},
		{at(3, 3), at(3, 3), at(3, 3), true}, {at(3, 3), at(3, 3), at(3, 4), false}, {at(3, 3), at(3, 3), at(2, 3), false}, {at(3, 3), at(3, 3), at(4, 9), false},
		{at(-far, -far), at(far, far), at(0, 0), true}, {at(-far, -far), at(far, far), at(far, far), true}, {at(-far, -far), at(far, far), at(0, 1), false},
		{at(far, far), at(far, far), at(far, far), true}, {at(-far, far), at(far, -far), at(far-1, 1-far), true}, {at(-far, far), at(0, 0), at(far, -far), false},
	} {
		if got := point.On(c.a, c.b, c.p); got != c.want {
			t.Errorf("On of %v, %v, %v: %v", c.a, c.b, c.p, got)
		}
	}
	for _, p := range wrong() {
		for _, l := range [][3]point.Point{{p, p, p}, {p, at(0, 0), at(0, 0)}, {at(0, 0), p, at(0, 0)}, {at(0, 0), at(0, 0), p}, {p, p, at(0, 0)}} {
			if point.On(l[0], l[1], l[2]) {
				t.Errorf("On of %v", l)
			}
		}
	}
}

// circle asks of the circle's centre, over twice the turn: how far the point is from it, less how far a is.
func circle(a, b, c, p point.Point) int {
	around := turn(a, b, c)
	if around.Sign() == 0 {
		return 0
	}
	double := times(number(2), around)
	bx, by := minus(number(b.X), number(a.X)), minus(number(b.Y), number(a.Y))
	cx, cy := minus(number(c.X), number(a.X)), minus(number(c.Y), number(a.Y))
	b2, c2 := plus(times(bx, bx), times(by, by)), plus(times(cx, cx), times(cy, cy))
	x, y := minus(times(cy, b2), times(by, c2)), minus(times(bx, c2), times(cx, b2))
	px, py := times(double, minus(number(p.X), number(a.X))), times(double, minus(number(p.Y), number(a.Y)))
	apart := plus(times(minus(px, x), minus(px, x)), times(minus(py, y), minus(py, y)))
	return plus(times(x, x), times(y, y)).Cmp(apart)
}

// P3.2: Circle.
func TestCircle(t *testing.T) {
	seen := map[int]int{}
	fours(func(a, b, c, p point.Point) {
		got := point.Circle(a, b, c, p)
		if got != circle(a, b, c, p) {
			t.Fatalf("Circle of %v, %v, %v, %v: %d", a, b, c, p, got)
		}
		seen[got]++
	})
	if seen[-1] == 0 || seen[0] == 0 || seen[1] == 0 {
		t.Errorf("answers: %v", seen)
	}
}

// turned has three points in all their orders.
func turned(a, b, c point.Point) [][3]point.Point {
	return [][3]point.Point{{a, b, c}, {b, c, a}, {c, a, b}, {c, b, a}, {b, a, c}, {a, c, b}}
}

// P3.2: Circle, by hand, whichever way the three go around.
func TestCircleByHand(t *testing.T) {
	for _, c := range []struct {
		a, b, c, p point.Point
		want       int
	}{
		{at(0, 0), at(2, 0), at(0, 2), at(2, 2), 0}, {at(0, 0), at(2, 0), at(0, 2), at(1, 1), 1}, {at(0, 0), at(2, 0), at(0, 2), at(3, 2), -1}, {at(0, 0), at(2, 0), at(0, 2), at(-1, 0), -1},
		{at(0, 0), at(2, 0), at(0, 2), at(0, 0), 0}, {at(0, 0), at(2, 0), at(0, 2), at(2, 0), 0}, {at(0, 0), at(2, 0), at(0, 2), at(0, 2), 0}, {at(0, 0), at(2, 0), at(0, 2), at(far, -far), -1},
		{at(5, 0), at(0, 5), at(-3, -4), at(4, 3), 0}, {at(5, 0), at(0, 5), at(-3, -4), at(4, 4), -1}, {at(5, 0), at(0, 5), at(-3, -4), at(3, 3), 1},
		{at(-far, -far), at(far, -far), at(far, far), at(-far, far), 0}, {at(-far, -far), at(far, -far), at(far, far), at(1-far, far), 1}, {at(1-far, -far), at(far-1, -far), at(far-1, far), at(-far, far), -1},
		{at(-far, -far), at(far, -far), at(0, far), at(0, 0), 1}, {at(-far, 0), at(far, 0), at(0, 1), at(0, far), -1}, {at(-far, 0), at(far, 0), at(0, 1), at(0, 2), -1}, {at(-far, 0), at(far, 0), at(0, 2), at(0, 1), 1}, {at(-far, 0), at(far, 0), at(0, 1), at(0, 1), 0},
		{at(0, 0), at(1, 1), at(2, 2), at(0, 1), 0}, {at(0, 0), at(1, 1), at(2, 2), at(1, 1), 0}, {at(3, 3), at(3, 3), at(1, 2), at(9, 9), 0}, {at(3, 3), at(3, 3), at(3, 3), at(9, 9), 0}, {at(-far, -far), at(0, 0), at(far, far), at(0, 1), 0},
	} {
		for _, l := range turned(c.a, c.b, c.c) {
			if got := point.Circle(l[0], l[1], l[2], c.p); got != c.want {
				t.Errorf("Circle of %v, %v: %d", l, c.p, got)
			}
		}
	}
	for _, p := range wrong() {
		for _, l := range turned(p, at(4, 0), at(0, 4)) {
			if got := point.Circle(l[0], l[1], l[2], at(1, 1)); got != 0 {
				t.Errorf("Circle of %v: %d", l, got)
			}
		}
		if got := point.Circle(at(0, 0), at(4, 0), at(0, 4), p); got != 0 {
			t.Errorf("Circle of %v: %d", p, got)
		}
	}
}

// in asks of areas: those to a point that lies in the triangle come to that of the triangle.
func in(a, b, c, p point.Point) int {
	whole := turn(a, b, c)
	if whole.Sign() == 0 {
		return -1
	}
	if on(a, b, p) || on(b, c, p) || on(c, a, p) {
		return 0
	}
	parts := new(big.Int)
	for _, part := range []*big.Int{turn(a, b, p), turn(b, c, p), turn(c, a, p)} {
		parts.Add(parts, part.Abs(part))
	}
	if parts.CmpAbs(whole) != 0 {
		return -1
	}
	return 1
}

// P3.2: In.
func TestIn(t *testing.T) {
	seen := map[int]int{}
	fours(func(a, b, c, p point.Point) {
		got := point.In(a, b, c, p)
		if got != in(a, b, c, p) {
			t.Fatalf("In of %v, %v, %v, %v: %d", a, b, c, p, got)
		}
		seen[got]++
	})
	if seen[-1] == 0 || seen[0] == 0 || seen[1] == 0 {
		t.Errorf("answers: %v", seen)
	}
}

// P3.2: In, by hand, whichever way the three go around.
func TestInByHand(t *testing.T) {
	for _, c := range []struct {
		a, b, c, p point.Point
		want       int
	}{
		{at(0, 0), at(4, 0), at(0, 4), at(1, 1), 1}, {at(0, 0), at(4, 0), at(0, 4), at(2, 2), 0}, {at(0, 0), at(4, 0), at(0, 4), at(2, 0), 0}, {at(0, 0), at(4, 0), at(0, 4), at(0, 3), 0},
		{at(0, 0), at(4, 0), at(0, 4), at(0, 0), 0}, {at(0, 0), at(4, 0), at(0, 4), at(4, 0), 0}, {at(0, 0), at(4, 0), at(0, 4), at(0, 4), 0},
		{at(0, 0), at(4, 0), at(0, 4), at(3, 3), -1}, {at(0, 0), at(4, 0), at(0, 4), at(5, 0), -1}, {at(0, 0), at(4, 0), at(0, 4), at(0, -1), -1}, {at(0, 0), at(4, 0), at(0, 4), at(5, -1), -1}, {at(0, 0), at(4, 0), at(0, 4), at(-1, -1), -1},
		{at(-far, -far), at(far, -far), at(far, far), at(0, 0), 0}, {at(-far, -far), at(far, -far), at(far, far), at(1, 0), 1}, {at(-far, -far), at(far, -far), at(far, far), at(0, 1), -1}, {at(-far, -far), at(far, -far), at(far, far), at(far, far), 0},
		{at(0, 0), at(1, 1), at(2, 2), at(1, 1), -1}, {at(0, 0), at(1, 1), at(2, 2), at(0, 1), -1}, {at(3, 3), at(3, 3), at(3, 3), at(3, 3), -1}, {at(3, 3), at(3, 3), at(5, 3), at(4, 3), -1},
	} {
		for _, l := range turned(c.a, c.b, c.c) {
			if got := point.In(l[0], l[1], l[2], c.p); got != c.want {
				t.Errorf("In of %v, %v: %d", l, c.p, got)
			}
		}
	}
	for _, p := range wrong() {
		for _, l := range turned(p, at(4, 0), at(0, 4)) {
			if got := point.In(l[0], l[1], l[2], at(4, 0)); got != -1 {
				t.Errorf("In of %v: %d", l, got)
			}
		}
		if got := point.In(at(0, 0), at(4, 0), at(0, 4), p); got != -1 {
			t.Errorf("In of %v: %d", p, got)
		}
	}
}

// facing asks of the place along each segment where the two lines cross: a part of it, between 0 and 1.
func facing(a, b, c, d point.Point) bool {
	over := minus(across(b.X, a.X, d.Y, c.Y), across(b.Y, a.Y, d.X, c.X))
	if over.Sign() == 0 {
		return false
	}
	mine := minus(across(c.X, a.X, d.Y, c.Y), across(c.Y, a.Y, d.X, c.X))
	other := minus(across(c.X, a.X, b.Y, a.Y), across(c.Y, a.Y, b.X, a.X))
	for _, part := range []*big.Int{mine, other} {
		place := new(big.Rat).SetFrac(part, over)
		if place.Sign() <= 0 || place.Cmp(big.NewRat(1, 1)) >= 0 {
			return false
		}
	}
	return true
}

// P3.3: Facing.
func TestFacing(t *testing.T) {
	crossed := 0
	fours(func(a, b, c, d point.Point) {
		got := point.Facing(a, b, c, d)
		if got != facing(a, b, c, d) {
			t.Fatalf("Facing of %v, %v, %v, %v: %v", a, b, c, d, got)
		}
		if got {
			crossed++
		}
	})
	if crossed == 0 {
		t.Errorf("none cross")
	}
}

// P3.3: Facing, by hand, each way around.
func TestFacingByHand(t *testing.T) {
	for _, c := range []struct {
		a, b, c, d point.Point
		want       bool
	}{
		{at(0, 0), at(2, 2), at(0, 2), at(2, 0), true}, {at(0, 0), at(3, 2), at(0, 1), at(3, 0), true}, {at(-far, -far), at(far, far), at(-far, far), at(far, -far), true},
		{at(-far, -far), at(far, far), at(0, 1), at(1, 0), true}, {at(-far, -far), at(far, far), at(0, 1), at(0, 0), false}, {at(-far, -far), at(far, far), at(0, 1), at(far-1, far), false},
		{at(0, 0), at(2, 2), at(1, 1), at(2, 0), false}, {at(0, 0), at(2, 2), at(2, 2), at(3, 0), false}, {at(0, 0), at(2, 2), at(0, 0), at(2, 2), false},
		{at(0, 0), at(2, 2), at(3, 0), at(0, 7), false}, {at(0, 0), at(2, 2), at(3, 2), at(5, 0), false}, {at(0, 0), at(4, 0), at(2, 1), at(2, 5), false},
		{at(0, 0), at(1, 1), at(2, 2), at(3, 3), false}, {at(0, 0), at(2, 2), at(1, 1), at(3, 3), false}, {at(0, 0), at(3, 3), at(1, 1), at(2, 2), false}, {at(0, 0), at(4, 0), at(0, 1), at(4, 1), false},
		{at(1, 1), at(1, 1), at(0, 0), at(2, 2), false}, {at(1, 1), at(1, 1), at(0, 2), at(2, 0), false}, {at(1, 1), at(1, 1), at(1, 1), at(1, 1), false},
	} {
		for _, l := range [][4]point.Point{{c.a, c.b, c.c, c.d}, {c.b, c.a, c.c, c.d}, {c.a, c.b, c.d, c.c}, {c.c, c.d, c.a, c.b}, {c.d, c.c, c.b, c.a}} {
			if got := point.Facing(l[0], l[1], l[2], l[3]); got != c.want {
				t.Errorf("Facing of %v: %v", l, got)
			}
		}
	}
	// Each would cross, if its wrong point were let through.
	for _, l := range [][4]point.Point{
		{at(-far-1, 0), at(far, 0), at(0, -5), at(0, 5)}, {at(-far, 0), at(far+1, 0), at(0, -5), at(0, 5)},
		{at(-5, 0), at(5, 0), at(0, -far-1), at(0, far)}, {at(-5, 0), at(5, 0), at(0, -far), at(0, far+1)},
		{at(-5, 0), at(5, 0), at(0, math.MinInt), at(0, math.MaxInt)}, {at(math.MinInt, 0), at(math.MaxInt, 0), at(0, -1), at(0, 1)},
	} {
		if point.Facing(l[0], l[1], l[2], l[3]) {
			t.Errorf("Facing of %v", l)
		}
	}
}

// P1: no call panics, whatever points it is given, and those that refuse tell so.
func TestAnyPoints(t *testing.T) {
	l := append(wrong(), at(0, 0), at(far, far), at(-far, 1))
	for _, a := range l {
		for _, b := range l {
			for _, c := range l {
				for _, d := range l {
					if a.Right() && b.Right() && c.Right() && d.Right() {
						continue
					}
					if point.Circle(a, b, c, d) != 0 || point.In(a, b, c, d) != -1 || point.Facing(a, b, c, d) {
						t.Fatalf("of %v, %v, %v, %v", a, b, c, d)
					}
				}
				if a.Right() && b.Right() && c.Right() {
					continue
				}
				if point.Turn(a, b, c) != 0 || point.On(a, b, c) {
					t.Fatalf("of %v, %v, %v", a, b, c)
				}
			}
		}
	}
}
