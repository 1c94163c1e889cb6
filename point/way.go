package point

import (
	"slices"

	"groma/api"
	"groma/wide"
)

func allowed(l []Point) bool { return len(l) <= api.MaxPoints && allRight(l...) }

// follower is the point behind the one at i, along the closed way.
func follower(l []Point, i int) Point { return l[(i+1)%len(l)] }

// Area: twice that of a closed way.
func Area(l []Point) (wide.Int, bool) {
	if !allowed(l) {
		return wide.Int{}, false
	}
	var area wide.Int
	for i, a := range l {
		// Seen from the origin, the turn is X1 Y2 - X2 Y1.
		area = sum(area, turn(Point{}, a, follower(l, i)))
	}
	return area, true
}

// Winds: how often a closed way goes around a point.
func Winds(l []Point, p Point) (n int, on, ok bool) {
	if !allowed(l) || !p.Right() {
		return 0, false, false
	}
	for i, a := range l {
		b := follower(l, i)
		if On(a, b, p) {
			return 0, true, true
		}
		n += passed(a, b, p)
	}
	return n, false, true
}

// passed: how the segment from a to b crosses the ray from p to the right, 1 upwards, -1 downwards. The lower end
// belongs to the segment and the upper one doesn't, so that a way that goes through the ray in an end counts once,
// and one that only touches it, or goes along it, comes to nothing.
func passed(a, b, p Point) int {
	switch {
	case a.Y <= p.Y && p.Y < b.Y && Turn(a, b, p) > 0:
		return 1
	case b.Y <= p.Y && p.Y < a.Y && Turn(a, b, p) < 0:
		return -1
	}
	return 0
}

// Hull: the corners of the convex hull.
func Hull(l []Point) ([]Point, bool) {
	if !allowed(l) {
		return nil, false
	}
	sorted := slices.Clone(l)
	slices.SortFunc(sorted, Point.Cmp)
	sorted = slices.Compact(sorted)
	if len(sorted) < 2 {
		return sorted, true
	}
	lower := bow(sorted)
	slices.Reverse(sorted)
	upper := bow(sorted)
	// Each bow ends where the other one begins.
	return append(lower[:len(lower)-1], upper[:len(upper)-1]...), true
}

// bow goes along points in their order from the first to the last one, and leaves out those at which its way
// doesn't turn to the left.
func bow(l []Point) []Point {
	var kept []Point
	for _, p := range l {
		for len(kept) > 1 && Turn(kept[len(kept)-2], kept[len(kept)-1], p) <= 0 {
			kept = kept[:len(kept)-1]
		}
		kept = append(kept, p)
	}
	return kept
}
