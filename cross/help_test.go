package cross_test

import (
	"math"
	"math/big"

	"groma/api"
	"groma/cross"
	"groma/point"
	"groma/wide"
)

const far = api.MaxCell

func at(x, y int) point.Point { return point.Point{X: x, Y: y} }

func seg(ax, ay, bx, by int) cross.Seg { return cross.Seg{A: at(ax, ay), B: at(bx, by)} }

func spot(x, y, w int) cross.Spot {
	return cross.Spot{X: wide.Of(x), Y: wide.Of(y), W: wide.Of(w)}
}

// wrong are points that are not right, each by another coordinate and side, just beyond the limit or far beyond.
func wrong() []point.Point {
	return []point.Point{
		at(far+1, 0), at(-far-1, 0), at(0, far+1), at(0, -far-1), at(far+1, far+1), at(far, -far-1),
		at(math.MaxInt, 0), at(math.MinInt, 0), at(0, math.MaxInt), at(0, math.MinInt), at(math.MinInt, math.MaxInt),
	}
}

func wrongSegs() []cross.Seg {
	var l []cross.Seg
	for _, p := range wrong() {
		l = append(l, cross.Seg{A: p}, cross.Seg{B: p}, cross.Seg{A: p, B: p})
	}
	return l
}

// What is asked for is worked out with math/big, so that no call of the program is trusted.
func number(n int) *big.Int           { return big.NewInt(int64(n)) }
func power(n uint) *big.Int           { return new(big.Int).Lsh(number(1), n) }
func plus(a *big.Int, b int) *big.Int { return new(big.Int).Add(a, number(b)) }
func times(a, b *big.Int) *big.Int    { return new(big.Int).Mul(a, b) }
func negated(a *big.Int) *big.Int     { return new(big.Int).Neg(a) }

// wideOf has a number's words, as chapter 1 says that they stand.
func wideOf(n *big.Int) wide.Int {
	rest := new(big.Int).And(n, plus(power(256), -1))
	var a wide.Int
	for i := range a {
		a[i] = new(big.Int).Rsh(rest, uint(64*i)).Uint64()
	}
	return a
}

func bigOf(a wide.Int) *big.Int {
	n := new(big.Int)
	for i := range a {
		n.Add(n, new(big.Int).Lsh(new(big.Int).SetUint64(a[i]), uint(64*i)))
	}
	if n.Cmp(power(255)) >= 0 {
		n.Sub(n, power(256))
	}
	return n
}

// place is a point with any coordinates.
type place struct{ x, y *big.Rat }

func whole(p point.Point) place {
	return place{new(big.Rat).SetInt(number(p.X)), new(big.Rat).SetInt(number(p.Y))}
}

func placeOf(p cross.Spot) place {
	w := bigOf(p.W)
	return place{new(big.Rat).SetFrac(bigOf(p.X), w), new(big.Rat).SetFrac(bigOf(p.Y), w)}
}

func (p place) cmp(q place) int {
	if n := p.x.Cmp(q.x); n != 0 {
		return n
	}
	return p.y.Cmp(q.y)
}

func minus(a, b *big.Rat) *big.Rat   { return new(big.Rat).Sub(a, b) }
func product(a, b *big.Rat) *big.Rat { return new(big.Rat).Mul(a, b) }

// turn is (b - a) times (d - c), crosswise.
func turn(a, b, c, d place) *big.Rat {
	return minus(product(minus(b.x, a.x), minus(d.y, c.y)), product(minus(b.y, a.y), minus(d.x, c.x)))
}

// ends is the chapter's low and high, by the coordinates alone.
func ends(s cross.Seg) (low, high point.Point) {
	if s.A.X > s.B.X || s.A.X == s.B.X && s.A.Y > s.B.Y {
		return s.B, s.A
	}
	return s.A, s.B
}

// holds looks for a t from 0 to 1 with p = A + t (B - A).
func holds(s cross.Seg, p place) bool {
	a, b := whole(s.A), whole(s.B)
	t := new(big.Rat)
	if s.A.X != s.B.X {
		t.Quo(minus(p.x, a.x), minus(b.x, a.x))
	} else if s.A.Y != s.B.Y {
		t.Quo(minus(p.y, a.y), minus(b.y, a.y))
	}
	if t.Sign() < 0 || t.Cmp(big.NewRat(1, 1)) > 0 {
		return false
	}
	return along(a, b, t).cmp(p) == 0
}

func along(a, b place, t *big.Rat) place {
	x, y := product(t, minus(b.x, a.x)), product(t, minus(b.y, a.y))
	return place{x.Add(x, a.x), y.Add(y, a.y)}
}

// shared are points in which two segments meet: each one of their ends that both hold, and where their lines cross,
// if both hold that. If they meet in one point, it is told alone; if along a segment, its two ends are.
func shared(s, t cross.Seg) []place {
	a, b, c, d := whole(s.A), whole(s.B), whole(t.A), whole(t.B)
	asked := []place{a, b, c, d}
	if det := turn(a, b, c, d); det.Sign() != 0 {
		asked = append(asked, along(a, b, new(big.Rat).Quo(turn(a, c, c, d), det)))
	}
	var l []place
	for _, p := range asked {
		if holds(s, p) && holds(t, p) && !has(l, p) {
			l = append(l, p)
		}
	}
	return l
}

func has(l []place, p place) bool {
	for _, q := range l {
		if p.cmp(q) == 0 {
			return true
		}
	}
	return false
}

// random tells numbers from 0 to n - 1, the same ones in each run.
func random() func(n int) int {
	seed := uint64(4)
	return func(n int) int {
		seed = seed*6364136223846793005 + 1442695040888963407
		return int((seed >> 20) % uint64(n))
	}
}

// grid has the points with coordinates from 0 to n - 1.
func grid(n int) []point.Point {
	var l []point.Point
	for x := range n {
		for y := range n {
			l = append(l, at(x, y))
		}
	}
	return l
}

// corners are points at the limits and beside them, and some in the middle.
func corners() []point.Point {
	var l []point.Point
	for _, x := range []int{-far, -far + 1, 0, 1, far - 1, far} {
		for _, y := range []int{-far, -far + 1, -1, 0, far - 1, far} {
			l = append(l, at(x, y))
		}
	}
	return l
}

func segsOf(l []point.Point) []cross.Seg {
	var segs []cross.Seg
	for _, a := range l {
		for _, b := range l {
			segs = append(segs, cross.Seg{A: a, B: b})
		}
	}
	return segs
}

// pairs go through all pairs of segments of a small grid, through some between the limits, and some of any points.
func pairs(f func(s, t cross.Seg)) {
	small := segsOf(grid(3))
	for _, s := range small {
		for _, t := range small {
			f(s, t)
		}
	}
	next := random()
	wide := segsOf(corners())
	for range 6000 {
		f(wide[next(len(wide))], wide[next(len(wide))])
	}
	for range 3000 {
		any := func() int { return next(2*far+1) - far }
		f(seg(any(), any(), any(), any()), seg(any(), any(), any(), any()))
	}
	for range 3000 {
		s := seg(next(9), next(9), next(9), next(9))
		f(s, seg(next(9), next(9), next(9), next(9)))
	}
}

// spots are right ones: with W at 1, at 2^90 and between, of the same points with other numbers, with whole coordinates
// and without, at the limits and within them.
func spots() []cross.Spot {
	var l []cross.Spot
	for _, w := range []*big.Int{number(1), number(2), number(3), number(6), power(85), plus(power(90), -1), power(90)} {
		reach := times(number(far), w)
		third := new(big.Int).Quo(w, number(3))
		coordinates := []*big.Int{number(0), w, negated(w), number(1), third, times(number(2), w), plus(w, 1), reach, negated(reach)}
		for _, x := range coordinates {
			for _, y := range coordinates {
				l = append(l, cross.Spot{X: wideOf(x), Y: wideOf(y), W: wideOf(w)})
			}
		}
	}
	return l
}

// wrongSpots have a W that is none, or a coordinate beyond the limits; the first ones would be points well within them.
func wrongSpots() []cross.Spot {
	least, most := negated(power(255)), plus(power(255), -1)
	var l []cross.Spot
	for _, w := range []*big.Int{number(0), number(-1), plus(power(90), 1), power(91), power(192), negated(power(90)), least, most} {
		l = append(l, cross.Spot{W: wideOf(w)}, cross.Spot{X: wideOf(w), Y: wideOf(w), W: wideOf(w)})
	}
	for _, w := range []*big.Int{number(1), number(3), power(90)} {
		reach := times(number(far), w)
		for _, n := range []*big.Int{plus(reach, 1), negated(plus(reach, 1)), least, most, power(254)} {
			l = append(l, cross.Spot{X: wideOf(n), W: wideOf(w)}, cross.Spot{Y: wideOf(n), W: wideOf(w)})
			l = append(l, cross.Spot{X: wideOf(n), Y: wideOf(n), W: wideOf(w)})
		}
	}
	return l
}
