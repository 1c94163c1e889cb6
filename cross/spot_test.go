package cross_test

import (
	"math/big"
	"testing"

	"groma/cross"
	"groma/point"
	"groma/wide"
)

// P4.1: a segment is right, if both ends are.
func TestSegRight(t *testing.T) {
	for _, s := range segsOf(append(corners(), grid(2)...)) {
		if !s.Right() {
			t.Errorf("%v isn't right", s)
		}
	}
	for _, s := range wrongSegs() {
		if s.Right() {
			t.Errorf("%v is right", s)
		}
	}
}

// P4.1: of all segments, those that aren't right too, Ends tells A and B, the one that comes ahead first.
func TestEnds(t *testing.T) {
	for _, s := range append(segsOf(append(corners(), wrong()...)), segsOf(grid(3))...) {
		low, high := s.Ends()
		if wantLow, wantHigh := ends(s); low != wantLow || high != wantHigh {
			t.Errorf("Ends of %v: %v, %v", s, low, high)
		}
	}
	for _, c := range []struct {
		s         cross.Seg
		low, high point.Point
	}{
		{seg(4, 2, 0, 9), at(0, 9), at(4, 2)},
		{seg(0, 9, 4, 2), at(0, 9), at(4, 2)},
		{seg(3, 7, 3, -7), at(3, -7), at(3, 7)},
		{seg(3, 7, 3, 7), at(3, 7), at(3, 7)},
	} {
		if low, high := c.s.Ends(); low != c.low || high != c.high {
			t.Errorf("Ends of %v: %v, %v", c.s, low, high)
		}
	}
}

// P4.1: At tells {p.X, p.Y, 1}, and a zero spot of a point that isn't right.
func TestAt(t *testing.T) {
	for _, p := range append(corners(), grid(3)...) {
		want := cross.Spot{X: wideOf(number(p.X)), Y: wideOf(number(p.Y)), W: wide.Int{1}}
		if got := cross.At(p); got != want || !got.Right() {
			t.Errorf("At %v: %v", p, got)
		}
	}
	for _, p := range wrong() {
		if got := cross.At(p); got != (cross.Spot{}) {
			t.Errorf("At %v: %v", p, got)
		}
	}
}

// P4.1: a spot is right, if W is from 1 to 2^90, and X and Y from -2^41 W to 2^41 W.
func TestSpotRight(t *testing.T) {
	for _, p := range spots() {
		if !p.Right() {
			t.Errorf("%v isn't right", p)
		}
	}
	for _, p := range wrongSpots() {
		if p.Right() {
			t.Errorf("%v is right", p)
		}
	}
}

// P4.1: spots stand by X, then by Y, whatever their numbers are.
func TestSpotCmp(t *testing.T) {
	all := spots()
	next := random()
	for range 40000 {
		p, q := all[next(len(all))], all[next(len(all))]
		if got, want := p.Cmp(q), placeOf(p).cmp(placeOf(q)); got != want {
			t.Fatalf("%v Cmp %v: %d, not %d", p, q, got, want)
		}
	}
	for _, p := range all {
		if p.Cmp(p) != 0 {
			t.Errorf("%v Cmp itself: %d", p, p.Cmp(p))
		}
	}
}

// Spots whose coordinates differ by less than 2^-170 are told apart.
func TestSpotCmpNarrow(t *testing.T) {
	w, v := power(90), plus(power(90), -1)
	x := times(number(far-1), w)
	p := cross.Spot{X: wideOf(plus(x, 1)), W: wideOf(w)}
	q := cross.Spot{X: wideOf(plus(times(number(far-1), v), 1)), W: wideOf(v)}
	if p.Cmp(q) != -1 || q.Cmp(p) != 1 {
		t.Errorf("by X: %d, %d", p.Cmp(q), q.Cmp(p))
	}
	p, q = cross.Spot{Y: p.X, W: p.W}, cross.Spot{Y: q.X, W: q.W}
	if p.Cmp(q) != -1 || q.Cmp(p) != 1 {
		t.Errorf("by Y: %d, %d", p.Cmp(q), q.Cmp(p))
	}
}

func TestSpotCmpByHand(t *testing.T) {
	for _, c := range []struct {
		p, q cross.Spot
		want int
	}{
		{spot(1, 2, 3), spot(2, 4, 6), 0},
		{spot(1, 2, 3), spot(2, 5, 6), -1},
		{spot(1, 2, 3), spot(2, 3, 6), 1},
		{spot(1, 9, 3), spot(1, 0, 2), -1},
		{spot(-1, 9, 3), spot(-1, 0, 2), 1},
		{spot(0, 0, 7), spot(0, 0, 1), 0},
		{spot(0, 0, 1), spot(0, 0, 0), 0},
		{spot(5, 0, 1), spot(9, 0, 0), 0},
		{spot(5, 0, 1), spot(9, 0, -1), 0},
		{spot(9, 0, -1), spot(5, 0, 1), 0},
	} {
		if got := c.p.Cmp(c.q); got != c.want {
			t.Errorf("%v Cmp %v: %d, not %d", c.p, c.q, got, c.want)
		}
	}
}

// P4.1: beside a spot that isn't right, Cmp is 0.
func TestSpotCmpWrong(t *testing.T) {
	all := append(spots(), wrongSpots()...)
	for _, p := range wrongSpots() {
		for _, q := range all {
			if p.Cmp(q) != 0 || q.Cmp(p) != 0 {
				t.Errorf("%v Cmp %v: %d, %d", p, q, p.Cmp(q), q.Cmp(p))
			}
		}
	}
}

// P4.1: Whole tells the point, if both coordinates are whole numbers; else a zero one and false.
func TestWhole(t *testing.T) {
	for _, p := range spots() {
		want, ok := wholeOf(placeOf(p))
		if got, told := p.Whole(); got != want || told != ok {
			t.Errorf("Whole of %v: %v, %v", p, got, told)
		}
	}
	for _, p := range append(corners(), grid(2)...) {
		if got, ok := cross.At(p).Whole(); got != p || !ok {
			t.Errorf("Whole at %v: %v, %v", p, got, ok)
		}
	}
	for _, p := range wrongSpots() {
		if got, ok := p.Whole(); got != (point.Point{}) || ok {
			t.Errorf("Whole of %v: %v, %v", p, got, ok)
		}
	}
}

func wholeOf(p place) (point.Point, bool) {
	if !p.x.IsInt() || !p.y.IsInt() {
		return point.Point{}, false
	}
	return at(int(p.x.Num().Int64()), int(p.y.Num().Int64())), true
}

func TestWholeByHand(t *testing.T) {
	for _, c := range []struct {
		p    cross.Spot
		want point.Point
		ok   bool
	}{
		{spot(-6, 9, 3), at(-2, 3), true},
		{spot(0, 0, 5), at(0, 0), true},
		{spot(-6, 8, 3), at(0, 0), false},
		{spot(-5, 9, 3), at(0, 0), false},
		{spot(-1, 1, 3), at(0, 0), false},
		{spot(-6, 9, -3), at(0, 0), false},
		{spot(0, 0, 0), at(0, 0), false},
		{spot(far+1, 0, 1), at(0, 0), false},
	} {
		if got, ok := c.p.Whole(); got != c.want || ok != c.ok {
			t.Errorf("Whole of %v: %v, %v", c.p, got, ok)
		}
	}
}

// The test's own numbers are read back as they were written.
func TestHelpers(t *testing.T) {
	for _, n := range []*big.Int{number(0), number(-1), power(200), negated(power(255)), plus(power(255), -1)} {
		if got := bigOf(wideOf(n)); got.Cmp(n) != 0 {
			t.Errorf("%v: %v", n, got)
		}
	}
}
