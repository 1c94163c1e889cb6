package cross_test

import (
	"testing"

	"groma/cross"
)

// P4.2: in nothing, in one point, or along a segment, and where.
func TestMeet(t *testing.T) {
	kinds := map[int]int{}
	pairs(func(s, u cross.Seg) {
		want := shared(s, u)
		kinds[len(want)]++
		kind, p := cross.Meet(s, u)
		switch {
		case kind != len(want):
			t.Fatalf("Meet of %v and %v: %d, not %d", s, u, kind, len(want))
		case kind != 1 && p != (cross.Spot{}):
			t.Fatalf("Meet of %v and %v: %d and %v", s, u, kind, p)
		case kind == 1 && (!p.Right() || placeOf(p).cmp(want[0]) != 0):
			t.Fatalf("Meet of %v and %v: at %v, not at %v", s, u, p, want[0])
		}
	})
	if len(kinds) != 3 || min(kinds[0], kinds[1], kinds[2]) < 100 {
		t.Errorf("kinds that were asked: %v", kinds)
	}
}

func back(s cross.Seg) cross.Seg { return cross.Seg{A: s.B, B: s.A} }

// P4.2, P4.3: from which end a segment is told, and which one is told first, changes nothing.
func TestEitherWay(t *testing.T) {
	pairs(func(s, u cross.Seg) {
		kind, p := cross.Meet(s, u)
		for _, c := range [][2]cross.Seg{{s, back(u)}, {back(s), u}, {back(s), back(u)}, {u, s}, {u, back(s)}, {back(u), s}, {back(u), back(s)}} {
			if k, q := cross.Meet(c[0], c[1]); k != kind || p.Cmp(q) != 0 || p.Right() != q.Right() {
				t.Fatalf("Meet of %v and %v: %d at %v, not %d at %v", c[0], c[1], k, q, kind, p)
			}
		}
		n := s.Slope(u)
		if back(s).Slope(u) != n || s.Slope(back(u)) != n || u.Slope(s) != -n {
			t.Fatalf("Slope of %v and %v hangs on their ends", s, u)
		}
		end := cross.At(u.A)
		if back(s).Side(end) != s.Side(end) || back(s).Holds(end) != s.Holds(end) {
			t.Fatalf("Side or Holds of %v at %v hangs on its ends", s, u.A)
		}
	})
}

func TestMeetByHand(t *testing.T) {
	for _, c := range []struct {
		name string
		s, u cross.Seg
		kind int
		p    cross.Spot
	}{
		{"the chapter's example", seg(0, 0, 3, 3), seg(0, 2, 2, 0), 1, spot(1, 1, 1)},
		{"within both", seg(0, 0, 3, 1), seg(0, 1, 3, 0), 1, spot(3, 1, 2)},
		{"share an end", seg(0, 0, 2, 2), seg(5, 0, 2, 2), 1, spot(2, 2, 1)},
		{"an end on the other", seg(0, 0, 4, 2), seg(2, 1, 2, 9), 1, spot(2, 1, 1)},
		{"an end on the other's line only", seg(0, 0, 4, 2), seg(6, 3, 6, 9), 0, cross.Spot{}},
		{"lines cross beside both", seg(0, 0, 1, 1), seg(9, 0, 8, 1), 0, cross.Spot{}},
		{"one goes by the other's end", seg(0, 0, 9, 0), seg(4, 1, 4, 9), 0, cross.Spot{}},
		{"upright and level", seg(0, -3, 0, 3), seg(-3, 0, 3, 0), 1, spot(0, 0, 1)},
		{"beside one another", seg(0, 0, 2, 2), seg(0, 1, 2, 3), 0, cross.Spot{}},
		{"one line, apart", seg(0, 0, 2, 2), seg(3, 3, 5, 5), 0, cross.Spot{}},
		{"one line, one end", seg(0, 0, 2, 2), seg(5, 5, 2, 2), 1, spot(2, 2, 1)},
		{"one line, a part", seg(0, 0, 4, 4), seg(2, 2, 5, 5), 2, cross.Spot{}},
		{"one line, all of one", seg(0, 0, 4, 4), seg(1, 1, 3, 3), 2, cross.Spot{}},
		{"one line, from one end on", seg(0, 0, 4, 4), seg(0, 0, 3, 3), 2, cross.Spot{}},
		{"the same", seg(0, 0, 4, 4), seg(4, 4, 0, 0), 2, cross.Spot{}},
		{"upright, apart", seg(0, 0, 0, 2), seg(0, 3, 0, 5), 0, cross.Spot{}},
		{"upright, one end", seg(0, 0, 0, 2), seg(0, 2, 0, 5), 1, spot(0, 2, 1)},
		{"upright, a part", seg(0, 0, 0, 3), seg(0, 2, 0, 5), 2, cross.Spot{}},
		{"one point, within", seg(1, 1, 1, 1), seg(0, 0, 2, 2), 1, spot(1, 1, 1)},
		{"one point, an end", seg(2, 2, 2, 2), seg(0, 0, 2, 2), 1, spot(2, 2, 1)},
		{"one point, on the line only", seg(3, 3, 3, 3), seg(0, 0, 2, 2), 0, cross.Spot{}},
		{"one point, beside", seg(1, 2, 1, 2), seg(0, 0, 2, 2), 0, cross.Spot{}},
		{"one point, twice", seg(1, 2, 1, 2), seg(1, 2, 1, 2), 1, spot(1, 2, 1)},
		{"two points", seg(1, 2, 1, 2), seg(1, 3, 1, 3), 0, cross.Spot{}},
		{"at the limits", seg(-far, -far, far, far), seg(-far, far, far, -far), 1, spot(0, 0, 1)},
		{"in a corner", seg(-far, -far, far, far), seg(far, far, far, -far), 1, spot(far, far, 1)},
		{"along a limit", seg(-far, far, far, far), seg(0, far, far, far), 2, cross.Spot{}},
		{"one point at the limits", seg(-far, far, -far, far), seg(-far, far, -far, far), 1, spot(-far, far, 1)},
	} {
		for _, s := range []cross.Seg{c.s, back(c.s)} {
			for _, u := range []cross.Seg{c.u, back(c.u)} {
				wantMeet(t, c.name, s, u, c.kind, c.p)
				wantMeet(t, c.name, u, s, c.kind, c.p)
			}
		}
	}
}

func wantMeet(t *testing.T, name string, s, u cross.Seg, kind int, want cross.Spot) {
	t.Helper()
	k, p := cross.Meet(s, u)
	switch {
	case k != kind || k != 1 && p != want:
		t.Errorf("%s: Meet of %v and %v: %d and %v", name, s, u, k, p)
	case k == 1 && (!p.Right() || placeOf(p).cmp(placeOf(want)) != 0):
		t.Errorf("%s: Meet of %v and %v: at %v", name, s, u, p)
	}
}

// P4.2: with a segment that isn't right, 0 and a zero spot, even where the numbers would meet.
func TestMeetWrong(t *testing.T) {
	for _, s := range wrongSegs() {
		for _, u := range append(wrongSegs(), s, seg(0, 0, 0, 0), seg(-1, -1, 1, 1), seg(-far, 0, far, 0), seg(0, -far, 0, far)) {
			wantMeet(t, "wrong", s, u, 0, cross.Spot{})
			wantMeet(t, "wrong", u, s, 0, cross.Spot{})
		}
	}
}

// places go through segments, and spots on them, on their lines, and beside: among them where others cross them.
func places(f func(s cross.Seg, p cross.Spot)) {
	all := spots()
	next := random()
	i := 0
	pairs(func(s, u cross.Seg) {
		i++
		if i%3 != 0 {
			return
		}
		f(s, cross.At(u.A))
		f(s, all[next(len(all))])
		if kind, p := cross.Meet(s, u); kind == 1 {
			f(s, p)
			f(u, p)
		}
		if kind, p := cross.Meet(u, cross.Seg{A: s.A, B: u.B}); kind == 1 {
			f(s, p)
		}
	})
}

// P4.3: Side is the sign of the chapter's number.
func TestSide(t *testing.T) {
	sides := map[int]int{}
	places(func(s cross.Seg, p cross.Spot) {
		low, high := ends(s)
		want := turn(whole(low), whole(high), whole(low), placeOf(p)).Sign()
		sides[want]++
		if got := s.Side(p); got != want {
			t.Fatalf("Side of %v at %v: %d, not %d", s, p, got, want)
		}
	})
	if len(sides) != 3 || min(sides[-1], sides[0], sides[1]) < 100 {
		t.Errorf("sides that were asked: %v", sides)
	}
}

// P4.3: Holds tells whether there is a part of the way from A to B that leads to the spot.
func TestHolds(t *testing.T) {
	held := map[bool]int{}
	places(func(s cross.Seg, p cross.Spot) {
		want := holds(s, placeOf(p))
		held[want]++
		if got := s.Holds(p); got != want {
			t.Fatalf("Holds of %v at %v: %v", s, p, got)
		}
	})
	if min(held[false], held[true]) < 100 {
		t.Errorf("held: %v", held)
	}
}

// P4.3: both ends lie on a segment, and so does all that it meets others in; a little beside does not.
func TestHoldsNarrow(t *testing.T) {
	s := seg(-far, -far, far, far-1)
	kind, p := cross.Meet(s, seg(-far, far, far-1, -far))
	if kind != 1 || !s.Holds(p) || s.Side(p) != 0 {
		t.Fatalf("Meet of the long ones: %d at %v", kind, p)
	}
	for by := -1; by <= 1; by += 2 {
		q := cross.Spot{X: p.X, Y: wideOf(plus(bigOf(p.Y), by)), W: p.W}
		if s.Holds(q) || s.Side(q) != by {
			t.Errorf("beside by %d: %d", by, s.Side(q))
		}
	}
	half := cross.Spot{X: wideOf(plus(power(90), 1)), W: wideOf(power(90))}
	if seg(0, 0, 1, 0).Holds(half) || seg(0, 0, 1, 0).Side(half) != 0 || !seg(0, 0, 2, 0).Holds(half) {
		t.Errorf("a little behind the end")
	}
}

func TestSideAndHoldsByHand(t *testing.T) {
	for _, c := range []struct {
		s    cross.Seg
		p    cross.Spot
		side int
		on   bool
	}{
		{seg(4, 2, 0, 0), spot(2, 1, 1), 0, true},
		{seg(4, 2, 0, 0), spot(0, 0, 9), 0, true},
		{seg(4, 2, 0, 0), spot(8, 4, 2), 0, true},
		{seg(4, 2, 0, 0), spot(9, 5, 2), 1, false},
		{seg(4, 2, 0, 0), spot(6, 3, 1), 0, false},
		{seg(4, 2, 0, 0), spot(-2, -1, 3), 0, false},
		{seg(4, 2, 0, 0), spot(2, 2, 1), 1, false},
		{seg(4, 2, 0, 0), spot(2, 0, 1), -1, false},
		{seg(0, 4, 0, 0), spot(-1, 9, 5), 1, false},
		{seg(0, 4, 0, 0), spot(1, 9, 5), -1, false},
		{seg(0, 4, 0, 0), spot(0, 9, 5), 0, true},
		{seg(0, 4, 0, 0), spot(0, 21, 5), 0, false},
		{seg(0, 4, 0, 0), spot(0, -1, 5), 0, false},
		{seg(3, 5, 3, 5), spot(6, 10, 2), 0, true},
		{seg(3, 5, 3, 5), spot(6, 11, 2), 0, false},
		{seg(3, 5, 3, 5), spot(0, 0, 1), 0, false},
		{seg(far, far, -far, -far), spot(far, -far, 1), -1, false},
		{seg(far, far, -far, -far), spot(-far, far, 1), 1, false},
		{seg(far, far, -far, -far), spot(far, far, 1), 0, true},
	} {
		if side, on := c.s.Side(c.p), c.s.Holds(c.p); side != c.side || on != c.on {
			t.Errorf("%v at %v: %d, %v", c.s, c.p, side, on)
		}
	}
}

// P4.3: if the segment or the spot isn't right, Side is 0 and Holds false.
func TestSideAndHoldsWrong(t *testing.T) {
	right := []cross.Seg{seg(0, 0, 0, 0), seg(-1, 0, 1, 0), seg(0, -1, 0, 1), seg(-far, -far, far, far), seg(3, 1, 2, 5)}
	for _, s := range append(wrongSegs(), right...) {
		for _, p := range wrongSpots() {
			if s.Side(p) != 0 || s.Holds(p) {
				t.Errorf("%v at %v: %d, %v", s, p, s.Side(p), s.Holds(p))
			}
		}
	}
	for _, s := range wrongSegs() {
		for _, p := range spots() {
			if s.Side(p) != 0 || s.Holds(p) {
				t.Errorf("%v at %v: %d, %v", s, p, s.Side(p), s.Holds(p))
			}
		}
	}
}

// P4.3: how the way of the second one must turn to be that of the first.
func TestSlope(t *testing.T) {
	slopes := map[int]int{}
	pairs(func(s, u cross.Seg) {
		low, high := ends(s)
		from, to := ends(u)
		want := turn(whole(from), whole(to), whole(low), whole(high)).Sign()
		slopes[want]++
		if got := s.Slope(u); got != want {
			t.Fatalf("Slope of %v and %v: %d, not %d", s, u, got, want)
		}
	})
	if len(slopes) != 3 || min(slopes[-1], slopes[0], slopes[1]) < 100 {
		t.Errorf("slopes that were asked: %v", slopes)
	}
}

// From the least steep way to the steepest one: down, level, up, and straight up, which is told from its lower end.
func TestSlopeByHand(t *testing.T) {
	rising := []cross.Seg{
		seg(0, far, 1, -far), seg(0, 0, 1, -5), seg(0, 0, 1, -1), seg(9, 9, 11, 8), seg(0, 0, far, -1), seg(-4, 7, 4, 7),
		seg(0, 0, far, 1), seg(0, 0, far-1, 1), seg(far, far, far-3, far-2), seg(2, 2, 7, 7), seg(-far, -far, -far+1, far), seg(5, 5, 5, 6),
	}
	for i, s := range rising {
		for j, u := range rising {
			want := 0
			if i < j {
				want = -1
			} else if i > j {
				want = 1
			}
			for _, got := range []int{s.Slope(u), back(s).Slope(u), s.Slope(back(u)), back(s).Slope(back(u))} {
				if got != want {
					t.Errorf("Slope of %v and %v: %d, not %d", s, u, got, want)
				}
			}
		}
	}
	for _, s := range rising {
		one := seg(1, 1, 1, 1)
		if s.Slope(one) != 0 || one.Slope(s) != 0 || one.Slope(one) != 0 {
			t.Errorf("Slope of %v and one point: %d, %d", s, s.Slope(one), one.Slope(s))
		}
		for _, u := range wrongSegs() {
			if s.Slope(u) != 0 || u.Slope(s) != 0 || u.Slope(u) != 0 {
				t.Errorf("Slope of %v and %v: %d, %d", s, u, s.Slope(u), u.Slope(s))
			}
		}
	}
	if seg(0, 0, 2, 1).Slope(seg(8, 4, 0, 0)) != 0 {
		t.Errorf("two that go one way")
	}
}

// What is handed in is not changed, and one call's answer does not change with the next call.
func TestNothingChanged(t *testing.T) {
	s, u, p, q := seg(9, 9, 0, 0), seg(0, 9, 9, 1), spot(4, 2, -2), spot(-4, 2, 2)
	s1, u1, p1, q1 := s, u, p, q
	kind, at := cross.Meet(s, u)
	at1 := at
	for _, v := range []*cross.Seg{&s, &u} {
		for _, r := range []*cross.Spot{&p, &q, &at} {
			v.Right()
			v.Ends()
			v.Side(*r)
			v.Holds(*r)
			v.Slope(s)
			r.Right()
			r.Cmp(at)
			r.Whole()
		}
	}
	again, same := cross.Meet(s, u)
	if s != s1 || u != u1 || p != p1 || q != q1 || at != at1 || again != kind || same != at {
		t.Errorf("something has changed")
	}
}

// P1: no call panics, whatever it is given.
func TestAnyArguments(t *testing.T) {
	points := append(wrong(), at(0, 0), at(far, -far))
	segs := segsOf(points)
	all := append(wrongSpots(), spots()[:20]...)
	for i, s := range segs {
		s.Right()
		s.Ends()
		for _, u := range segs {
			cross.Meet(s, u)
			s.Slope(u)
		}
		for _, p := range all {
			s.Side(p)
			s.Holds(p)
		}
		cross.At(points[i%len(points)])
	}
	for _, p := range all {
		p.Right()
		p.Whole()
		for _, q := range all {
			p.Cmp(q)
		}
	}
}
