package wide_test

import (
	"math"
	"math/big"
	"strings"
	"testing"

	"groma/wide"
)

const (
	leastText = "-57896044618658097711785492504343953926634992332820282019728792003956564819968"
	mostText  = "57896044618658097711785492504343953926634992332820282019728792003956564819967"
)

var (
	zero  = wide.Int{}
	least = wide.Int{0, 0, 0, 1 << 63}
	most  = wide.Int{math.MaxUint64, math.MaxUint64, math.MaxUint64, math.MaxInt64}

	nextLeast = wide.Int{1, 0, 0, 1 << 63}
	nextMost  = wide.Int{math.MaxUint64 - 1, math.MaxUint64, math.MaxUint64, math.MaxInt64}
)

// toBig reads the four words by themselves, so that no call under test is trusted.
func toBig(a wide.Int) *big.Int {
	n := new(big.Int)
	for i := range 4 {
		word := new(big.Int).SetUint64(a[3-i])
		n.Or(n.Lsh(n, 64), word)
	}
	if a[3] >= 1<<63 {
		n.Sub(n, new(big.Int).Lsh(big.NewInt(1), 256))
	}
	return n
}

// fromBig tells false beside the zero Int, as the calls under test must, if n is no Int.
func fromBig(n *big.Int) (wide.Int, bool) {
	bound := new(big.Int).Lsh(big.NewInt(1), 255)
	if n.Cmp(bound) >= 0 || n.Cmp(new(big.Int).Neg(bound)) < 0 {
		return wide.Int{}, false
	}
	if n.Sign() < 0 {
		n = new(big.Int).Add(n, new(big.Int).Lsh(bound, 1))
	}
	var a wide.Int
	for i := range 4 {
		word := new(big.Int).Rsh(n, uint(64*i))
		a[i] = word.And(word, new(big.Int).SetUint64(math.MaxUint64)).Uint64()
	}
	return a, true
}

// pow2 is 2^k + more, or its other sign.
func pow2(k uint, more int64, below bool) wide.Int {
	n := new(big.Int).Lsh(big.NewInt(1), k)
	n.Add(n, big.NewInt(more))
	if below {
		n.Neg(n)
	}
	a, ok := fromBig(n)
	if !ok {
		panic("pow2: no Int")
	}
	return a
}

// samples are numbers around the powers of 2 where words begin and end, at the limits, and between them.
func samples() []wide.Int {
	l := []wide.Int{zero, least, most, nextLeast, nextMost}
	for _, k := range []uint{0, 1, 2, 3, 31, 62, 63, 64, 65, 85, 126, 127, 128, 129, 190, 191, 192, 193, 253, 254} {
		for _, more := range []int64{-1, 0, 1} {
			l = append(l, pow2(k, more, false), pow2(k, more, true))
		}
	}
	seed := uint64(7)
	word := func() uint64 {
		seed = seed*6364136223846793005 + 1442695040888963407
		return seed ^ seed>>29
	}
	for i := range 40 {
		a := wide.Int{word(), word(), word(), word()}
		for j := i%4 + 1; j < 4; j++ {
			a[j] = 0
		}
		l = append(l, a)
		if b, ok := fromBig(new(big.Int).Neg(toBig(a))); ok {
			l = append(l, b)
		}
	}
	return l
}

// same holds an answer with its bool against what is asked.
func same(t *testing.T, what string, got wide.Int, ok bool, want wide.Int, is bool) {
	t.Helper()
	if got != want || ok != is {
		t.Fatalf("%s: %v %v, want %v %v", what, toBig(got), ok, toBig(want), is)
	}
}

// P1.1: Of.
func TestOf(t *testing.T) {
	for _, n := range []int{0, 1, -1, 7, -7, math.MaxInt, math.MinInt, math.MaxInt - 1, math.MinInt + 1, 1 << 32, -1 << 32} {
		if got := toBig(wide.Of(n)); got.Cmp(big.NewInt(int64(n))) != 0 {
			t.Errorf("Of(%d): %v", n, got)
		}
	}
	if got := wide.Of(-2); got != (wide.Int{math.MaxUint64 - 1, math.MaxUint64, math.MaxUint64, math.MaxUint64}) {
		t.Errorf("Of(-2): %x", got)
	}
}

// P1.1: Add, Sub, Mul, Neg, of all pairs of samples, most of whose products and some of whose sums are no Int.
func TestSumsAndProducts(t *testing.T) {
	refused := 0
	for _, a := range samples() {
		x := toBig(a)
		got, ok := a.Neg()
		want, is := fromBig(new(big.Int).Neg(x))
		same(t, "Neg of "+x.String(), got, ok, want, is)
		for _, b := range samples() {
			y := toBig(b)
			pair := " of " + x.String() + " and " + y.String()
			got, ok = a.Add(b)
			want, is = fromBig(new(big.Int).Add(x, y))
			same(t, "Add"+pair, got, ok, want, is)
			got, ok = a.Sub(b)
			want, is = fromBig(new(big.Int).Sub(x, y))
			same(t, "Sub"+pair, got, ok, want, is)
			got, ok = a.Mul(b)
			want, is = fromBig(new(big.Int).Mul(x, y))
			same(t, "Mul"+pair, got, ok, want, is)
			if !ok {
				refused++
			}
		}
	}
	if refused == 0 {
		t.Errorf("no product was refused")
	}
}

// P1.1: the edges, named one by one.
func TestSumsAndProductsAtTheLimits(t *testing.T) {
	one, minus := wide.Of(1), wide.Of(-1)
	check := func(what string, want wide.Int, is bool) func(wide.Int, bool) {
		return func(got wide.Int, ok bool) {
			t.Helper()
			same(t, what, got, ok, want, is)
		}
	}
	check("least + most", minus, true)(least.Add(most))
	check("most + 1", zero, false)(most.Add(one))
	check("least + -1", zero, false)(least.Add(minus))
	check("least + least", zero, false)(least.Add(least))
	check("most + most", zero, false)(most.Add(most))
	check("least - least", zero, true)(least.Sub(least))
	check("-1 - least", most, true)(minus.Sub(least))
	check("0 - least", zero, false)(zero.Sub(least))
	check("0 - most", nextLeast, true)(zero.Sub(most))
	check("least - 1", zero, false)(least.Sub(one))
	check("most - -1", zero, false)(most.Sub(minus))
	check("least * 1", least, true)(least.Mul(one))
	check("least * -1", zero, false)(least.Mul(minus))
	check("-1 * least", zero, false)(minus.Mul(least))
	check("least * 0", zero, true)(least.Mul(zero))
	check("least * least", zero, false)(least.Mul(least))
	check("most * -1", nextLeast, true)(most.Mul(minus))
	check("2^127 * 2^128", zero, false)(pow2(127, 0, false).Mul(pow2(128, 0, false)))
	check("-2^127 * 2^128", least, true)(pow2(127, 0, true).Mul(pow2(128, 0, false)))
	check("-2^127 * -2^128", zero, false)(pow2(127, 0, true).Mul(pow2(128, 0, true)))
	check("2^128 * 2^128", zero, false)(pow2(128, 0, false).Mul(pow2(128, 0, false)))
	check("-least", zero, false)(least.Neg())
	check("-most", nextLeast, true)(most.Neg())
	check("-0", zero, true)(zero.Neg())
}

// floorDiv is asked of the definition of P1.2, by way of the quotient that is rounded towards 0.
func floorDiv(x, y *big.Int) (q, r *big.Int) {
	q, r = new(big.Int).QuoRem(x, y, new(big.Int))
	if r.Sign() != 0 && r.Sign() != y.Sign() {
		q.Sub(q, big.NewInt(1))
		r.Add(r, y)
	}
	return q, r
}

// P1.2: Div, of all pairs of samples.
func TestDiv(t *testing.T) {
	for _, a := range samples() {
		for _, b := range samples() {
			x, y := toBig(a), toBig(b)
			pair := x.String() + " by " + y.String()
			q, r, ok := a.Div(b)
			if y.Sign() == 0 {
				same(t, "quotient of "+pair, q, ok, zero, false)
				same(t, "rest of "+pair, r, ok, zero, false)
				continue
			}
			quotient, rest := floorDiv(x, y)
			wantQ, is := fromBig(quotient)
			wantR, _ := fromBig(rest)
			if !is {
				wantR = zero
			}
			same(t, "quotient of "+pair, q, ok, wantQ, is)
			same(t, "rest of "+pair, r, ok, wantR, is)
		}
	}
}

// P1.2: the chapter's examples, and the edges.
func TestDivByHand(t *testing.T) {
	one, minus := wide.Of(1), wide.Of(-1)
	for _, c := range []struct {
		a, b, q, r wide.Int
		ok         bool
	}{
		{wide.Of(7), wide.Of(2), wide.Of(3), wide.Of(1), true},
		{wide.Of(-7), wide.Of(2), wide.Of(-4), wide.Of(1), true},
		{wide.Of(7), wide.Of(-2), wide.Of(-4), wide.Of(-1), true},
		{wide.Of(-7), wide.Of(-2), wide.Of(3), wide.Of(-1), true},
		{wide.Of(-6), wide.Of(3), wide.Of(-2), zero, true},
		{wide.Of(1), wide.Of(5), zero, wide.Of(1), true},
		{wide.Of(-1), wide.Of(5), minus, wide.Of(4), true},
		{zero, least, zero, zero, true},
		{zero, zero, zero, zero, false},
		{most, zero, zero, zero, false},
		{least, zero, zero, zero, false},
		{least, minus, zero, zero, false},
		{least, one, least, zero, true},
		{most, minus, nextLeast, zero, true},
		{least, least, one, zero, true},
		{most, least, minus, minus, true},
		{least, most, wide.Of(-2), nextMost, true},
		{one, least, minus, nextLeast, true},
		{minus, most, minus, nextMost, true},
	} {
		q, r, ok := c.a.Div(c.b)
		if q != c.q || r != c.r || ok != c.ok {
			t.Errorf("Div of %v by %v: %v, %v, %v", toBig(c.a), toBig(c.b), toBig(q), toBig(r), ok)
		}
	}
}

// P1.3: Cmp, Sign, of all pairs of samples.
func TestOrder(t *testing.T) {
	for _, a := range samples() {
		x := toBig(a)
		if got := a.Sign(); got != x.Sign() {
			t.Errorf("Sign of %v: %d", x, got)
		}
		for _, b := range samples() {
			y := toBig(b)
			if got := a.Cmp(b); got != x.Cmp(y) {
				t.Fatalf("Cmp of %v and %v: %d", x, y, got)
			}
		}
	}
	if least.Cmp(most) != -1 || most.Cmp(least) != 1 || least.Cmp(least) != 0 || zero.Sign() != 0 || least.Sign() != -1 || most.Sign() != 1 {
		t.Errorf("at the limits")
	}
}

// P1.3: Small, at the limits of an int, past them, and of numbers whose lowest word alone would be an int.
func TestSmall(t *testing.T) {
	for _, n := range []int{0, 1, -1, 12345, -12345, math.MaxInt, math.MinInt, math.MaxInt - 1, math.MinInt + 1} {
		if got, ok := wide.Of(n).Small(); got != n || !ok {
			t.Errorf("Small of %d: %d, %v", n, got, ok)
		}
	}
	for _, a := range samples() {
		x := toBig(a)
		want := 0
		if x.IsInt64() {
			want = int(x.Int64())
		}
		if got, ok := a.Small(); got != want || ok != x.IsInt64() {
			t.Errorf("Small of %v: %d, %v", x, got, ok)
		}
	}
	for _, a := range []wide.Int{pow2(63, 0, false), pow2(63, 1, true), {5, 1}, {5, 0, 1}, {5, 0, 0, 1}, {5, math.MaxUint64, math.MaxUint64, math.MaxUint64}, least, most} {
		if got, ok := a.Small(); got != 0 || ok {
			t.Errorf("Small of %v: %d, %v", toBig(a), got, ok)
		}
	}
}

// P1.4: Text, and Parse of it.
func TestText(t *testing.T) {
	l := samples()
	for k := range 77 {
		ten := new(big.Int).Exp(big.NewInt(10), big.NewInt(int64(k)), nil)
		for _, more := range []int64{-1, 0, 1} {
			n := new(big.Int).Add(ten, big.NewInt(more))
			a, _ := fromBig(n)
			b, _ := fromBig(n.Neg(n))
			l = append(l, a, b)
		}
	}
	for _, a := range l {
		want := toBig(a).String()
		if got := a.Text(); got != want {
			t.Errorf("Text of %s: %s", want, got)
		}
		got, ok := wide.Parse(want)
		same(t, "Parse of "+want, got, ok, a, true)
	}
	for _, c := range []struct {
		a    wide.Int
		text string
	}{{zero, "0"}, {wide.Of(-1), "-1"}, {wide.Of(10), "10"}, {least, leastText}, {most, mostText}} {
		if got := c.a.Text(); got != c.text {
			t.Errorf("Text: %s, want %s", got, c.text)
		}
		got, ok := wide.Parse(c.text)
		same(t, "Parse of "+c.text, got, ok, c.a, true)
	}
}

// P1.4: what is no Int's Text.
func TestParseRefuses(t *testing.T) {
	two256 := new(big.Int).Lsh(big.NewInt(1), 256)
	around := new(big.Int).Add(two256, big.NewInt(5)).String() // its lowest 256 bits alone would be an Int
	below := new(big.Int).Sub(two256, big.NewInt(5)).String()
	for _, s := range []string{
		"", "-", "--1", "-0", "00", "01", "-01", "000", "+1", "+", "+0", " 1", "1 ", "1 2", "1a", "a", "1.0", "1e3", "0x10", "1_000",
		"-1-", "1-", "1\x00", "\x00", "/", ":", "1/", "1:", "\xff", "\u0661", "\u22121", "0-",
		mostText[:76] + "8", leastText[:77] + "9", mostText + "0", leastText + "0", mostText[:76] + "a", "0" + mostText,
		two256.String(), "-" + two256.String(), around, "-" + around, below, "-" + below,
		strings.Repeat("9", 77), strings.Repeat("9", 78), "-" + strings.Repeat("9", 1000), "1" + strings.Repeat("0", 100000),
	} {
		if got, ok := wide.Parse(s); got != zero || ok {
			t.Errorf("Parse(%.90q): %v, %v", s, toBig(got), ok)
		}
	}
}

// P1.5: Bits.
func TestBits(t *testing.T) {
	for _, a := range samples() {
		x := toBig(a)
		if got := a.Bits(); got != x.BitLen() {
			t.Errorf("Bits of %v: %d", x, got)
		}
	}
	for k := range uint(255) {
		for _, below := range []bool{false, true} {
			if got := pow2(k, 0, below).Bits(); got != int(k)+1 {
				t.Errorf("Bits of 2^%d: %d", k, got)
			}
			if got := pow2(k, -1, below).Bits(); got != int(k) {
				t.Errorf("Bits of 2^%d - 1: %d", k, got)
			}
		}
	}
	if zero.Bits() != 0 || least.Bits() != 256 || most.Bits() != 255 {
		t.Errorf("Bits at the limits: %d, %d, %d", zero.Bits(), least.Bits(), most.Bits())
	}
}

// P1.5: Common, of all pairs of samples.
func TestCommon(t *testing.T) {
	for _, a := range samples() {
		for _, b := range samples() {
			x, y := toBig(a), toBig(b)
			want, is := fromBig(new(big.Int).GCD(nil, nil, new(big.Int).Abs(x), new(big.Int).Abs(y)))
			got, ok := wide.Common(a, b)
			same(t, "Common of "+x.String()+" and "+y.String(), got, ok, want, is)
		}
	}
	for _, c := range []struct {
		a, b, want wide.Int
		ok         bool
	}{
		{wide.Of(12), wide.Of(18), wide.Of(6), true},
		{wide.Of(-12), wide.Of(18), wide.Of(6), true},
		{wide.Of(-12), wide.Of(-18), wide.Of(6), true},
		{zero, zero, zero, true},
		{zero, wide.Of(-5), wide.Of(5), true},
		{wide.Of(-5), zero, wide.Of(5), true},
		{least, least, zero, false},
		{least, zero, zero, false},
		{zero, least, zero, false},
		{least, wide.Of(-1), wide.Of(1), true},
		{least, pow2(254, 0, true), pow2(254, 0, false), true},
		{most, most, most, true},
	} {
		got, ok := wide.Common(c.a, c.b)
		same(t, "Common of "+toBig(c.a).String()+" and "+toBig(c.b).String(), got, ok, c.want, c.ok)
	}
}

// P1.5: Common of two that follow one another in Fibonacci's row, for which Euclid's way is longest.
func TestCommonOfFibonacci(t *testing.T) {
	a, b := wide.Of(1), wide.Of(1)
	for {
		sum, ok := a.Add(b)
		if !ok {
			break
		}
		a, b = b, sum
	}
	got, ok := wide.Common(b, a)
	same(t, "Common", got, ok, wide.Of(1), true)
}

// P1.5: Root, of samples, and of squares and their neighbours.
func TestRoot(t *testing.T) {
	l := samples()
	for _, a := range samples() {
		if square, ok := fromBig(new(big.Int).Mul(toBig(a), toBig(a))); ok {
			l = append(l, square)
			for _, more := range []int64{-1, 1} {
				if near, ok := fromBig(new(big.Int).Add(toBig(square), big.NewInt(more))); ok {
					l = append(l, near)
				}
			}
		}
	}
	for _, a := range l {
		x := toBig(a)
		got, ok := a.Root()
		if x.Sign() < 0 {
			same(t, "Root of "+x.String(), got, ok, zero, false)
			continue
		}
		want, _ := fromBig(new(big.Int).Sqrt(x))
		same(t, "Root of "+x.String(), got, ok, want, true)
	}
	for n, want := range []int{0, 1, 1, 1, 2, 2, 2, 2, 2, 3} {
		got, ok := wide.Of(n).Root()
		same(t, "Root of a small one", got, ok, wide.Of(want), true)
	}
}

// P1.5: Power, of all powers that may be asked for.
func TestPower(t *testing.T) {
	l := append(samples(), wide.Of(10), wide.Of(-10), wide.Of(3), wide.Of(-3))
	for _, a := range l {
		x := toBig(a)
		product, is := big.NewInt(1), true
		for n := range 257 {
			want := zero
			if n > 0 && is {
				product.Mul(product, x)
			}
			if is {
				want, is = fromBig(product)
			}
			got, ok := a.Power(n)
			same(t, "Power of "+x.String(), got, ok, want, is)
		}
	}
}

// P1.5: Power at its edges, and with an n that is refused.
func TestPowerAtTheLimits(t *testing.T) {
	for _, c := range []struct {
		a    wide.Int
		n    int
		want wide.Int
		ok   bool
	}{
		{zero, 0, wide.Of(1), true},
		{least, 0, wide.Of(1), true},
		{zero, 256, zero, true},
		{wide.Of(1), 256, wide.Of(1), true},
		{wide.Of(-1), 256, wide.Of(1), true},
		{wide.Of(-1), 255, wide.Of(-1), true},
		{wide.Of(2), 254, pow2(254, 0, false), true},
		{wide.Of(2), 255, zero, false},
		{wide.Of(-2), 255, least, true},
		{wide.Of(-2), 256, zero, false},
		{least, 1, least, true},
		{least, 2, zero, false},
		{most, 1, most, true},
		{most, 2, zero, false},
		{zero, 257, zero, false},
		{wide.Of(1), 257, zero, false},
		{wide.Of(1), -1, zero, false},
		{wide.Of(1), math.MaxInt, zero, false},
		{wide.Of(1), math.MinInt, zero, false},
	} {
		got, ok := c.a.Power(c.n)
		same(t, "Power of "+toBig(c.a).String(), got, ok, c.want, c.ok)
	}
}
