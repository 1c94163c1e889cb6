package ratio_test

import (
	"math"
	"math/big"
	"testing"

	"groma/ratio"
	"groma/wide"
)

var (
	zero      = wide.Int{}
	one       = wide.Of(1)
	least     = wide.Int{0, 0, 0, 1 << 63}
	most      = wide.Int{math.MaxUint64, math.MaxUint64, math.MaxUint64, math.MaxInt64}
	nextLeast = wide.Int{1, 0, 0, 1 << 63}
)

// toBig reads the four words by themselves, so that no call of the program is trusted.
func toBig(a wide.Int) *big.Int {
	n := new(big.Int)
	for i := range 4 {
		n.Or(n.Lsh(n, 64), new(big.Int).SetUint64(a[3-i]))
	}
	if a[3] >= 1<<63 {
		n.Sub(n, one256())
	}
	return n
}

func one256() *big.Int { return new(big.Int).Lsh(big.NewInt(1), 256) }

// fromBig tells false beside the zero Int, if n is no Int.
func fromBig(n *big.Int) (wide.Int, bool) {
	bound := new(big.Int).Lsh(big.NewInt(1), 255)
	if n.Cmp(bound) >= 0 || n.Cmp(new(big.Int).Neg(bound)) < 0 {
		return wide.Int{}, false
	}
	if n.Sign() < 0 {
		n = new(big.Int).Add(n, one256())
	}
	var a wide.Int
	for i := range 4 {
		word := new(big.Int).Rsh(n, uint(64*i))
		a[i] = word.And(word, new(big.Int).SetUint64(math.MaxUint64)).Uint64()
	}
	return a, true
}

// pow2 is 2^k, with a sign.
func pow2(k uint, sign int64) wide.Int {
	a, ok := fromBig(new(big.Int).Lsh(big.NewInt(sign), k))
	if !ok {
		panic("pow2: no Int")
	}
	return a
}

func text(r ratio.Rat) string { return toBig(r.N).String() + "/" + toBig(r.D).String() }

// numbers are whole ones around 0, around the limits, and between, some of whose products are no Int.
func numbers() []wide.Int {
	l := []wide.Int{zero, least, nextLeast, most, pow2(254, 1), pow2(254, -1), pow2(128, 1), pow2(127, -1), pow2(127, 1), pow2(64, 3), pow2(63, -5)}
	for _, n := range []int{1, 2, 3, 4, 6, 35, 1 << 40, math.MaxInt, 720720} {
		l = append(l, wide.Of(n), wide.Of(-n))
	}
	return l
}

// fractions are those of all pairs of numbers: those with D at most 0 are not right.
func fractions() []ratio.Rat {
	var l []ratio.Rat
	for _, n := range numbers() {
		for _, d := range numbers() {
			l = append(l, ratio.Rat{N: n, D: d})
		}
	}
	return l
}

// fewer is every fourth one of them: the pairs of all would take long. 29 numbers are no multiple of 4, so each one still stands as an N and as a D.
func fewer() []ratio.Rat {
	var l []ratio.Rat
	for i, r := range fractions() {
		if i%4 == 0 {
			l = append(l, r)
		}
	}
	return l
}

func right(r ratio.Rat) bool { return toBig(r.D).Sign() > 0 }

// refused is what stands beside a false: nothing.
func refused(t *testing.T, what string, got ratio.Rat, ok bool) {
	t.Helper()
	if ok || got != (ratio.Rat{}) {
		t.Errorf("%s: %s, %v, want nothing", what, text(got), ok)
	}
}

// given is an answer with these N and D.
func given(t *testing.T, what string, got ratio.Rat, ok bool, n, d wide.Int) {
	t.Helper()
	if !ok || got != (ratio.Rat{N: n, D: d}) {
		t.Errorf("%s: %s, %v, want %v/%v", what, text(got), ok, toBig(n), toBig(d))
	}
}

// P2.1: Of.
func TestOf(t *testing.T) {
	for _, n := range []int{0, 1, -1, 7, math.MaxInt, math.MinInt} {
		got := ratio.Of(n)
		if toBig(got.N).Cmp(big.NewInt(int64(n))) != 0 || got.D != one {
			t.Errorf("Of(%d): %s", n, text(got))
		}
		if !got.Right() || !got.Whole() {
			t.Errorf("Of(%d) is not right or not whole", n)
		}
	}
}

// P2.1: New, of all pairs of numbers.
func TestNew(t *testing.T) {
	for _, n := range numbers() {
		for _, d := range numbers() {
			what := "New of " + toBig(n).String() + ", " + toBig(d).String()
			got, ok := ratio.New(n, d)
			if toBig(d).Sign() > 0 {
				given(t, what, got, ok, n, d)
				continue
			}
			turnedN, fits := fromBig(new(big.Int).Neg(toBig(n)))
			turnedD, fit := fromBig(new(big.Int).Neg(toBig(d)))
			if !fits || !fit || d == zero {
				refused(t, what, got, ok)
				continue
			}
			given(t, what, got, ok, turnedN, turnedD)
		}
	}
}

// P2.1: New, the edges one by one.
func TestNewByHand(t *testing.T) {
	for _, c := range []struct {
		n, d   wide.Int
		up, un wide.Int
		ok     bool
	}{
		{wide.Of(6), wide.Of(-4), wide.Of(-6), wide.Of(4), true},
		{wide.Of(6), wide.Of(4), wide.Of(6), wide.Of(4), true},
		{wide.Of(-6), wide.Of(-4), wide.Of(6), wide.Of(4), true},
		{zero, wide.Of(-5), zero, wide.Of(5), true},
		{zero, zero, zero, zero, false},
		{one, zero, zero, zero, false},
		{least, zero, zero, zero, false},
		{least, one, least, one, true},
		{least, most, least, most, true},
		{least, wide.Of(-1), zero, zero, false},
		{one, least, zero, zero, false},
		{zero, least, zero, zero, false},
		{least, least, zero, zero, false},
		{nextLeast, nextLeast, most, most, true},
		{most, wide.Of(-1), nextLeast, one, true},
	} {
		got, ok := ratio.New(c.n, c.d)
		if got != (ratio.Rat{N: c.up, D: c.un}) || ok != c.ok {
			t.Errorf("New of %v, %v: %s, %v", toBig(c.n), toBig(c.d), text(got), ok)
		}
	}
}

// P2.1: Right, Sign; P2.2: Floor, Whole; each of all fractions, those that are not right among them.
func TestOfOneFraction(t *testing.T) {
	for _, r := range fractions() {
		n, d := toBig(r.N), toBig(r.D)
		if r.Right() != right(r) {
			t.Errorf("Right of %s: %v", text(r), r.Right())
		}
		floor, ok := r.Floor()
		if !right(r) {
			if r.Sign() != 0 || r.Whole() || ok || floor != zero {
				t.Errorf("of %s, not right: Sign %d, Whole %v, Floor %v, %v", text(r), r.Sign(), r.Whole(), toBig(floor), ok)
			}
			continue
		}
		if r.Sign() != n.Sign() {
			t.Errorf("Sign of %s: %d", text(r), r.Sign())
		}
		// With a divisor above 0, Euclid's quotient is the one that is rounded down.
		want, rest := new(big.Int).DivMod(n, d, new(big.Int))
		if !ok || toBig(floor).Cmp(want) != 0 {
			t.Errorf("Floor of %s: %v, %v", text(r), toBig(floor), ok)
		}
		if r.Whole() != (rest.Sign() == 0) {
			t.Errorf("Whole of %s: %v", text(r), r.Whole())
		}
	}
}

// P2.2: Floor, Whole, by hand.
func TestFloorByHand(t *testing.T) {
	for _, c := range []struct {
		r     ratio.Rat
		floor wide.Int
		whole bool
	}{
		{ratio.Rat{N: wide.Of(-6), D: wide.Of(4)}, wide.Of(-2), false},
		{ratio.Rat{N: wide.Of(6), D: wide.Of(4)}, wide.Of(1), false},
		{ratio.Rat{N: wide.Of(-8), D: wide.Of(4)}, wide.Of(-2), true},
		{ratio.Rat{N: wide.Of(-1), D: most}, wide.Of(-1), false},
		{ratio.Rat{N: one, D: most}, zero, false},
		{ratio.Rat{N: zero, D: most}, zero, true},
		{ratio.Rat{N: least, D: one}, least, true},
		{ratio.Rat{N: least, D: most}, wide.Of(-2), false},
		{ratio.Rat{N: most, D: most}, one, true},
	} {
		if floor, ok := c.r.Floor(); floor != c.floor || !ok || c.r.Whole() != c.whole {
			t.Errorf("Floor of %s: %v, %v; Whole: %v", text(c.r), toBig(floor), ok, c.r.Whole())
		}
	}
}

// P2.2: Cmp, of pairs of fractions.
func TestCmp(t *testing.T) {
	refusals, answers := 0, 0
	for _, r := range fewer() {
		for _, o := range fewer() {
			got, ok := r.Cmp(o)
			mine := new(big.Int).Mul(toBig(r.N), toBig(o.D))
			other := new(big.Int).Mul(toBig(o.N), toBig(r.D))
			_, fits := fromBig(mine)
			_, fit := fromBig(other)
			want, is := 0, right(r) && right(o) && fits && fit
			if is {
				want = mine.Cmp(other)
				answers++
			} else {
				refusals++
			}
			if got != want || ok != is {
				t.Fatalf("Cmp of %s and %s: %d, %v, want %d, %v", text(r), text(o), got, ok, want, is)
			}
		}
	}
	if refusals == 0 || answers == 0 {
		t.Errorf("%d refusals, %d answers", refusals, answers)
	}
}

// P2.2: Cmp, the edges one by one.
func TestCmpByHand(t *testing.T) {
	for _, c := range []struct {
		r, o ratio.Rat
		want int
		ok   bool
	}{
		{ratio.Rat{N: wide.Of(-6), D: wide.Of(4)}, ratio.Rat{N: wide.Of(-3), D: wide.Of(2)}, 0, true},
		{ratio.Rat{N: one, D: wide.Of(3)}, ratio.Rat{N: one, D: wide.Of(2)}, -1, true},
		{ratio.Rat{N: one, D: wide.Of(2)}, ratio.Rat{N: one, D: wide.Of(3)}, 1, true},
		{ratio.Rat{N: wide.Of(-1), D: wide.Of(2)}, ratio.Rat{N: wide.Of(-1), D: wide.Of(3)}, -1, true},
		{ratio.Rat{N: zero, D: wide.Of(2)}, ratio.Rat{N: zero, D: most}, 0, true},
		{ratio.Rat{N: least, D: one}, ratio.Rat{N: most, D: one}, -1, true},
		{ratio.Rat{N: least, D: one}, ratio.Rat{N: least, D: one}, 0, true},
		{ratio.Rat{N: pow2(127, -1), D: one}, ratio.Rat{N: one, D: pow2(128, 1)}, -1, true},
		{ratio.Rat{N: pow2(127, 1), D: one}, ratio.Rat{N: one, D: pow2(128, 1)}, 0, false},
		{ratio.Rat{N: one, D: pow2(128, 1)}, ratio.Rat{N: pow2(127, 1), D: one}, 0, false},
		{ratio.Rat{N: most, D: wide.Of(2)}, ratio.Rat{N: most, D: wide.Of(2)}, 0, false},
		{ratio.Rat{}, ratio.Rat{}, 0, false},
		{ratio.Rat{N: one}, ratio.Of(-1), 0, false},
		{ratio.Of(-1), ratio.Rat{N: one}, 0, false},
		{ratio.Rat{N: one, D: wide.Of(-1)}, ratio.Of(5), 0, false},
		{ratio.Of(5), ratio.Rat{N: one, D: least}, 0, false},
	} {
		if got, ok := c.r.Cmp(c.o); got != c.want || ok != c.ok {
			t.Errorf("Cmp of %s and %s: %d, %v", text(c.r), text(c.o), got, ok)
		}
	}
}

// P2.3: Reduced, of all fractions; big.Rat has the least D too.
func TestReduced(t *testing.T) {
	for _, r := range fractions() {
		got, ok := r.Reduced()
		if !right(r) {
			refused(t, "Reduced of "+text(r), got, ok)
			continue
		}
		want := new(big.Rat).SetFrac(toBig(r.N), toBig(r.D))
		n, _ := fromBig(want.Num())
		d, _ := fromBig(want.Denom())
		given(t, "Reduced of "+text(r), got, ok, n, d)
	}
}

// P2.3: Reduced, by hand.
func TestReducedByHand(t *testing.T) {
	for _, c := range []struct{ n, d, up, un wide.Int }{
		{wide.Of(-6), wide.Of(4), wide.Of(-3), wide.Of(2)},
		{zero, wide.Of(5), zero, one},
		{zero, most, zero, one},
		{wide.Of(7), one, wide.Of(7), one},
		{wide.Of(12), wide.Of(4), wide.Of(3), one},
		{least, pow2(254, 1), wide.Of(-2), one},
		{least, pow2(100, 1), pow2(155, -1), one},
		{least, most, least, most},
		{most, most, one, one},
		{nextLeast, most, wide.Of(-1), one},
		{pow2(254, 1), pow2(64, 3), pow2(190, 1), wide.Of(3)},
	} {
		r := ratio.Rat{N: c.n, D: c.d}
		got, ok := r.Reduced()
		given(t, "Reduced of "+text(r), got, ok, c.up, c.un)
	}
	for _, r := range []ratio.Rat{{}, {N: one}, {N: one, D: wide.Of(-1)}, {N: least, D: least}, {N: zero, D: least}, {N: least}} {
		got, ok := r.Reduced()
		refused(t, "Reduced of "+text(r), got, ok)
	}
}

// P2.3: Add, Mul, of pairs of fractions, N and D as they come.
func TestAddAndMul(t *testing.T) {
	var sums, products, refusals int
	for _, r := range fewer() {
		for _, o := range fewer() {
			pair := " of " + text(r) + " and " + text(o)
			mine := new(big.Int).Mul(toBig(r.N), toBig(o.D))
			other := new(big.Int).Mul(toBig(o.N), toBig(r.D))
			_, fits := fromBig(mine)
			_, fit := fromBig(other)
			sum, sumFits := fromBig(new(big.Int).Add(mine, other))
			product, productFits := fromBig(new(big.Int).Mul(toBig(r.N), toBig(o.N)))
			over, overFits := fromBig(new(big.Int).Mul(toBig(r.D), toBig(o.D)))
			both := right(r) && right(o) && overFits

			got, ok := r.Add(o)
			if both && fits && fit && sumFits {
				given(t, "Add"+pair, got, ok, sum, over)
				sums++
			} else {
				refused(t, "Add"+pair, got, ok)
				refusals++
			}
			got, ok = r.Mul(o)
			if both && productFits {
				given(t, "Mul"+pair, got, ok, product, over)
				products++
			} else {
				refused(t, "Mul"+pair, got, ok)
				refusals++
			}
		}
	}
	if sums == 0 || products == 0 || refusals == 0 {
		t.Errorf("%d sums, %d products, %d refusals", sums, products, refusals)
	}
}

// P2.3: Add, the edges one by one: each step on the way may be the one that is no Int.
func TestAddByHand(t *testing.T) {
	for _, c := range []struct {
		r, o ratio.Rat
		n, d wide.Int
		ok   bool
	}{
		{ratio.Rat{N: wide.Of(-6), D: wide.Of(4)}, ratio.Rat{N: one, D: wide.Of(3)}, wide.Of(-14), wide.Of(12), true},
		{ratio.Rat{N: one, D: wide.Of(2)}, ratio.Rat{N: one, D: wide.Of(2)}, wide.Of(4), wide.Of(4), true},
		{ratio.Rat{N: zero, D: wide.Of(2)}, ratio.Rat{N: zero, D: wide.Of(3)}, zero, wide.Of(6), true},
		{ratio.Rat{N: least, D: one}, ratio.Rat{N: most, D: one}, wide.Of(-1), one, true},
		{ratio.Rat{N: most, D: one}, ratio.Of(1), zero, zero, false},                        // the sum
		{ratio.Rat{N: least, D: one}, ratio.Of(-1), zero, zero, false},                      // the sum
		{ratio.Rat{N: most, D: one}, ratio.Rat{N: zero, D: wide.Of(2)}, zero, zero, false},  // N1 D2
		{ratio.Rat{N: zero, D: wide.Of(2)}, ratio.Rat{N: least, D: one}, zero, zero, false}, // N2 D1
		{ratio.Rat{N: zero, D: pow2(128, 1)}, ratio.Rat{N: zero, D: pow2(127, 1)}, zero, zero, false},
		{ratio.Rat{N: most, D: wide.Of(2)}, ratio.Rat{N: nextLeast, D: wide.Of(2)}, zero, zero, false}, // though the sum is 0
		{ratio.Rat{N: one}, ratio.Of(1), zero, zero, false},
		{ratio.Of(1), ratio.Rat{N: one}, zero, zero, false},
		{ratio.Rat{N: one, D: wide.Of(-2)}, ratio.Of(1), zero, zero, false},
		{ratio.Of(1), ratio.Rat{N: one, D: least}, zero, zero, false},
	} {
		got, ok := c.r.Add(c.o)
		if got != (ratio.Rat{N: c.n, D: c.d}) || ok != c.ok {
			t.Errorf("Add of %s and %s: %s, %v", text(c.r), text(c.o), text(got), ok)
		}
	}
}

// P2.3: Mul, the edges one by one.
func TestMulByHand(t *testing.T) {
	for _, c := range []struct {
		r, o ratio.Rat
		n, d wide.Int
		ok   bool
	}{
		{ratio.Rat{N: wide.Of(-6), D: wide.Of(4)}, ratio.Rat{N: one, D: wide.Of(3)}, wide.Of(-6), wide.Of(12), true},
		{ratio.Rat{N: wide.Of(-2), D: wide.Of(3)}, ratio.Rat{N: wide.Of(-3), D: wide.Of(2)}, wide.Of(6), wide.Of(6), true},
		{ratio.Rat{N: zero, D: wide.Of(2)}, ratio.Rat{N: least, D: wide.Of(3)}, zero, wide.Of(6), true},
		{ratio.Rat{N: least, D: one}, ratio.Of(1), least, one, true},
		{ratio.Rat{N: least, D: one}, ratio.Of(-1), zero, zero, false},
		{ratio.Rat{N: pow2(127, -1), D: one}, ratio.Rat{N: pow2(128, 1), D: one}, least, one, true},
		{ratio.Rat{N: pow2(127, 1), D: one}, ratio.Rat{N: pow2(128, 1), D: one}, zero, zero, false},
		{ratio.Rat{N: one, D: pow2(127, 1)}, ratio.Rat{N: one, D: pow2(128, 1)}, zero, zero, false},
		{ratio.Rat{N: one, D: most}, ratio.Of(5), wide.Of(5), most, true},
		{ratio.Rat{N: zero, D: most}, ratio.Rat{N: zero, D: wide.Of(2)}, zero, zero, false},
		{ratio.Rat{N: one}, ratio.Of(1), zero, zero, false},
		{ratio.Of(1), ratio.Rat{N: one}, zero, zero, false},
		{ratio.Rat{N: one, D: wide.Of(-1)}, ratio.Rat{N: one, D: wide.Of(-1)}, zero, zero, false},
	} {
		got, ok := c.r.Mul(c.o)
		if got != (ratio.Rat{N: c.n, D: c.d}) || ok != c.ok {
			t.Errorf("Mul of %s and %s: %s, %v", text(c.r), text(c.o), text(got), ok)
		}
	}
}
