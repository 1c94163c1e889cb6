package cross

import (
	"groma/api"
	"groma/point"
	"groma/wide"
)

// Spot is an exact point, (X / W, Y / W). It is right, if W is from 1 to 2^90, and X and Y from -MaxCell W to MaxCell W.
type Spot struct{ X, Y, W wide.Int }

const bitsW = 90

// Coordinates of right points differ by at most 2^42, so that the W of where two segments cross is at most 2^85. Numbers
// of right spots are at most 2^131, and what is made of them and of another W, or of a way, at most 2^222: the bools
// that wide tells beside its sums, differences and products are always true here.

func sum(a, b wide.Int) wide.Int {
	n, _ := a.Add(b)
	return n
}

func difference(a, b wide.Int) wide.Int {
	n, _ := a.Sub(b)
	return n
}

func product(a, b wide.Int) wide.Int {
	n, _ := a.Mul(b)
	return n
}

func negative(a wide.Int) wide.Int {
	n, _ := a.Neg()
	return n
}

// At: a point's.
func At(p point.Point) Spot {
	if !p.Right() {
		return Spot{}
	}
	return Spot{wide.Of(p.X), wide.Of(p.Y), wide.Of(1)}
}

// Right: may it be one?
func (p Spot) Right() bool {
	// The numbers from 0 to 2^90 - 1 are those of at most 90 bits.
	if p.W.Sign() <= 0 || difference(p.W, wide.Of(1)).Bits() > bitsW {
		return false
	}
	reach := product(wide.Of(api.MaxCell), p.W)
	return within(p.X, reach) && within(p.Y, reach)
}

func within(n, reach wide.Int) bool { return n.Cmp(reach) <= 0 && n.Cmp(negative(reach)) >= 0 }

// Cmp: which one comes first.
func (p Spot) Cmp(q Spot) int {
	if !p.Right() || !q.Right() {
		return 0
	}
	if order := cmpParts(p.X, p.W, q.X, q.W); order != 0 {
		return order
	}
	return cmpParts(p.Y, p.W, q.Y, q.W)
}

// cmpParts holds n / d against m / e, where d and e are above 0.
func cmpParts(n, d, m, e wide.Int) int { return product(n, e).Cmp(product(m, d)) }

// Whole: the point that it is.
func (p Spot) Whole() (point.Point, bool) {
	if !p.Right() {
		return point.Point{}, false
	}
	x, ok := quotient(p.X, p.W)
	y, okY := quotient(p.Y, p.W)
	if !ok || !okY {
		return point.Point{}, false
	}
	return point.Point{X: x, Y: y}, true
}

// quotient is a coordinate of a right spot, if it is a whole number.
func quotient(n, w wide.Int) (int, bool) {
	whole, rest, _ := n.Div(w)
	if rest.Sign() != 0 {
		return 0, false
	}
	return whole.Small()
}
