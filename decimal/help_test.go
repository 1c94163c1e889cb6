package decimal_test

import (
	"math/big"
	"regexp"
	"strings"
	"testing"

	"groma/api"
	"groma/decimal"
)

// What the chapters say of numbers' texts, as patterns: of those that are read, and of those that are told.
var (
	numbers = regexp.MustCompile(`^([+-]?)([0-9]+|[0-9]+\.[0-9]*|\.[0-9]+)(?:[eE]([+-]?[0-9]+))?$`)
	plain   = regexp.MustCompile(`^-?(0|[1-9][0-9]*)(\.[0-9]*[1-9])?$`)
	bare    = regexp.MustCompile(`^([1-9]|[1-9][0-9]*[1-9])?$`)
)

// value is the number of a text whose power is not great; nothing, if it is no number's text.
func value(s string) *big.Rat {
	if !numbers.MatchString(s) {
		return nil
	}
	r, ok := new(big.Rat).SetString(s)
	if !ok {
		panic(s)
	}
	return r
}

// tens is 10 to the power of n.
func tens(n int) *big.Rat {
	p := new(big.Int).Exp(big.NewInt(10), big.NewInt(int64(max(n, -n))), nil)
	if n < 0 {
		return new(big.Rat).SetFrac(big.NewInt(1), p)
	}
	return new(big.Rat).SetInt(p)
}

// scaled is what Scale should tell of a number.
func scaled(v *big.Rat, fine int) (int, api.Errno) {
	if v == nil || fine < 0 || fine > api.MaxFine {
		return 0, api.ErrForm
	}
	units := new(big.Rat).Mul(v, tens(fine))
	if !units.IsInt() {
		return 0, api.ErrPrecision
	}
	if units.Num().CmpAbs(big.NewInt(api.MaxUnit)) > 0 {
		return 0, api.ErrReach
	}
	return int(units.Num().Int64()), api.OK
}

// scale holds what Scale tells of a text against this.
func scale(t *testing.T, s string, fine, n int, e api.Errno) {
	t.Helper()
	if got, err := decimal.Scale(s, fine); got != n || err != e {
		t.Errorf("Scale(%.60q, %d): %d, %d, not %d, %d", s, fine, got, err, n, e)
	}
}

// text holds what Text tells of units against this.
func text(t *testing.T, n, fine int, want string) {
	t.Helper()
	if got := decimal.Text(n, fine); got != want {
		t.Errorf("Text(%d, %d): %q, not %q", n, fine, got, want)
	}
}

// parts is what Digits tells.
type parts struct {
	digits    string
	power     int
	below, ok bool
}

func digits(s string) parts {
	var p parts
	p.digits, p.power, p.below, p.ok = decimal.Digits(s)
	return p
}

// taken holds what Digits tells of a text against this.
func taken(t *testing.T, s string, want parts) {
	t.Helper()
	if got := digits(s); got != want {
		t.Errorf("Digits(%.60q): %.60v, not %.60v", s, got, want)
	}
}

// whole holds all that the package tells of a text, whose power is not great, against what it should.
func whole(t *testing.T, s string) {
	t.Helper()
	v := value(s)
	for fine := -1; fine <= api.MaxFine+1; fine++ {
		n, e := scaled(v, fine)
		scale(t, s, fine, n, e)
	}
	if v == nil {
		taken(t, s, parts{})
		return
	}
	same(t, s, v)
}

// same is whether Digits tells this number, in the one way in which it may.
func same(t *testing.T, s string, v *big.Rat) {
	t.Helper()
	p := digits(s)
	if !p.ok || !bare.MatchString(p.digits) || p.below != (v.Sign() < 0) {
		t.Errorf("Digits(%q): %v", s, p)
		return
	}
	if p.digits == "" {
		if v.Sign() != 0 || p.power != 0 {
			t.Errorf("Digits(%q): %v", s, p)
		}
		return
	}
	got, _ := new(big.Rat).SetString(p.digits)
	got.Mul(got, tens(p.power))
	if got.Cmp(new(big.Rat).Abs(v)) != 0 {
		t.Errorf("Digits(%q): %v", s, p)
	}
}

// written holds what Text tells of units against what it should, and what Scale tells of that text.
func written(t *testing.T, n, fine int) {
	t.Helper()
	s := decimal.Text(n, fine)
	want := new(big.Rat).Mul(new(big.Rat).SetInt64(int64(n)), tens(-fine))
	if !plain.MatchString(s) || strings.HasPrefix(s, "-") != (n < 0) || value(s).Cmp(want) != 0 {
		t.Errorf("Text(%d, %d): %q", n, fine, s)
	}
	if n < -api.MaxUnit || n > api.MaxUnit {
		scale(t, s, fine, 0, api.ErrReach)
		return
	}
	scale(t, s, fine, n, api.OK)
}

// texts are all of at most n of these bytes.
func texts(signs string, n int) []string {
	all := []string{""}
	last := all
	for range n {
		var longer []string
		for _, s := range last {
			for i := range len(signs) {
				longer = append(longer, s+signs[i:i+1])
			}
		}
		all, last = append(all, longer...), longer
	}
	return all
}

// noughts are n of them.
func noughts(n int) string { return strings.Repeat("0", n) }
