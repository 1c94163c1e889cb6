package decimal_test

import (
	"math"
	"strconv"
	"strings"
	"testing"

	"groma/api"
	"groma/decimal"
)

// P10.1, P10.3: all texts of few signs, with each fine.
func TestAllSmall(t *testing.T) {
	for _, s := range texts("01.-e", 5) {
		whole(t, s)
	}
	for _, s := range texts("09+.E", 5) {
		whole(t, s)
	}
	for _, s := range texts("70. ", 6) {
		whole(t, s)
	}
}

// P10.1, P10.3: digits with the point at each place, with each power around, and each sign.
func TestEachPoint(t *testing.T) {
	for _, d := range []string{"5", "10", "205", "0070", "12345", "00120500", "1099511627775", "1099511627776", "10995116277750"} {
		for at := range len(d) + 1 {
			for power := -16; power <= 16; power++ {
				s := d[:at] + "." + d[at:] + "e" + strconv.Itoa(power)
				whole(t, s)
				whole(t, "-"+s)
			}
		}
	}
}

// P10.1, P10.3: each byte ahead of a number, within it, and behind it.
func TestEachByte(t *testing.T) {
	for c := range 256 {
		b := string([]byte{byte(c)})
		for _, s := range []string{b, b + "1", "1" + b, "1" + b + "2", "1e" + b + "2", "." + b} {
			whole(t, s)
		}
	}
}

// P10.1, P10.3: what is no number's text, whatever the fine.
func TestNoNumber(t *testing.T) {
	for _, s := range []string{"", " ", ".", "+", "-", "e", "E5", "e5", "1e", "1e+", "1e-", "+.", "-.e1", ".e1", "--1", "+-1", "1.2.3", "1..", "1e5.0", "1e.5", "1ee5", "1e5e5", " 1", "1 ", "1\n", "\t1", "1 2", "1,", "(1)", "0x1", "1_0", "1p2", "inf", "NaN", "½", "١", "1é", "\x001", "1\xff", "−1"} {
		taken(t, s, parts{})
		for _, fine := range []int{math.MinInt, -1, 0, 1, 9, 10, math.MaxInt} {
			scale(t, s, fine, 0, api.ErrForm)
		}
	}
}

// P10.1, P10.2: a fine of which there is no unit, whatever the number.
func TestNoUnit(t *testing.T) {
	for _, fine := range []int{math.MinInt, math.MinInt + 1, -1 << 32, -10, -1, 10, 11, 1 << 32, math.MaxInt - 1, math.MaxInt} {
		for _, s := range []string{"0", "1", "-1.5", "1e30", "1e-30", "0.1e40", "1e99999999999999999999", "-3e-99999999999999999999", "x"} {
			scale(t, s, fine, 0, api.ErrForm)
		}
		for _, n := range []int{math.MinInt, -1, 0, 1, 10, math.MaxInt} {
			text(t, n, fine, "")
		}
	}
}

// P10.1, P10.3: nought is one number in all its spellings.
func TestNought(t *testing.T) {
	for _, sign := range []string{"", "+", "-"} {
		for _, d := range []string{"0", "00", "0.", ".0", "0.0", "000.000", "." + noughts(500), noughts(500) + "." + noughts(300)} {
			for _, power := range []string{"", "e0", "e5", "E-5", "e+400", "e-400", "e99999999999999999999999", "e-99999999999999999999999", "E+" + strings.Repeat("9", 400), "e-" + strings.Repeat("9", 400)} {
				s := sign + d + power
				taken(t, s, parts{ok: true})
				for fine := range api.MaxFine + 1 {
					scale(t, s, fine, 0, api.OK)
				}
			}
		}
	}
}

// P10.1: the greatest and the least count, one beyond, in each unit.
func TestReach(t *testing.T) {
	for fine := range api.MaxFine + 1 {
		behind := "e-" + strconv.Itoa(fine)
		for _, sign := range []string{"", "-"} {
			n := api.MaxUnit
			if sign == "-" {
				n = -n
			}
			scale(t, sign+"1099511627774"+behind, fine, n-n/api.MaxUnit, api.OK)
			scale(t, sign+"1099511627775"+behind, fine, n, api.OK)
			scale(t, sign+"1099511627776"+behind, fine, 0, api.ErrReach)
			scale(t, sign+"1099511627780"+behind, fine, 0, api.ErrReach)
			scale(t, sign+"1e12", 0, n/api.MaxUnit*1_000_000_000_000, api.OK)
			scale(t, sign+"1e13", fine, 0, api.ErrReach)
			scale(t, sign+"1"+noughts(400), fine, 0, api.ErrReach)
			scale(t, sign+strings.Repeat("9", 400), fine, 0, api.ErrReach)
		}
	}
	for _, s := range []string{"9223372036854775807", "9223372036854775808", "18446744073709551616", "18446744073709551617", "36893488147419103233", "1152921504606846976", "1e18", "1e19", "1e20", "4e18", "1125899906842624e3", "1844674407370955162e1"} {
		scale(t, s, 0, 0, api.ErrReach)
		scale(t, "-"+s, 9, 0, api.ErrReach)
	}
}

// P10.1: a number that is no whole count of units, by one digit and by many.
func TestPrecision(t *testing.T) {
	for fine := range api.MaxFine + 1 {
		last := "0." + noughts(fine) + "1"
		scale(t, last, fine, 0, api.ErrPrecision)
		scale(t, last+"e1", fine, 1, api.OK)
		scale(t, "-7"+last[1:]+noughts(400), fine, 0, api.ErrPrecision)
		scale(t, "0."+noughts(400)+"1", fine, 0, api.ErrPrecision)
		scale(t, "1."+strings.Repeat("3", 400), fine, 0, api.ErrPrecision)
		scale(t, "1e-"+strconv.Itoa(fine+1), fine, 0, api.ErrPrecision)
		scale(t, "10e-"+strconv.Itoa(fine+1), fine, 1, api.OK)
		scale(t, "1e-400", fine, 0, api.ErrPrecision)
	}
}

// P10.1: of a number that is both too fine and too far, it is told that it is too fine.
func TestTooFineAndTooFar(t *testing.T) {
	for fine := range api.MaxFine + 1 {
		last := "." + noughts(fine) + "1"
		scale(t, "1099511627776"+last, fine, 0, api.ErrPrecision)
		scale(t, "-1099511627775"+last, fine, 0, api.ErrPrecision)
		scale(t, "1"+noughts(400)+last, fine, 0, api.ErrPrecision)
		scale(t, "-"+strings.Repeat("7", 400)+last, fine, 0, api.ErrPrecision)
	}
	scale(t, "1099511627775.1", 0, 0, api.ErrPrecision)
	scale(t, "1099511627775.1", 1, 0, api.ErrReach)
}

// P10.1, P10.3: noughts ahead, behind the point, and behind the digits, some hundreds of them.
func TestManyNoughts(t *testing.T) {
	for _, n := range []int{100, 399, 700} {
		z := noughts(n)
		power := strconv.Itoa(n)
		scale(t, z+"12."+z, 0, 12, api.OK)
		scale(t, "-"+z+"12.5"+z, 1, -125, api.OK)
		scale(t, "."+z+"25e"+power, 2, 25, api.OK)
		scale(t, "25"+z+"e-"+power, 2, 2500, api.OK)
		scale(t, "1e"+z+"3", 0, 1000, api.OK)
		scale(t, "1e-"+z+"3", 4, 10, api.OK)
		taken(t, z+"120."+z, parts{"12", 1, false, true})
		taken(t, "-."+z+"120", parts{"12", -n - 2, true, true})
		taken(t, "+120"+z, parts{"12", n + 1, false, true})
		taken(t, z+"10."+z+"01"+z, parts{"1" + noughts(n+2) + "1", -n - 2, false, true})
		taken(t, "7e+"+z+"40", parts{"7", 40, false, true})
	}
}

// P10.1, P10.3: powers of many digits, beyond what an int holds.
func TestManyPowers(t *testing.T) {
	for _, power := range []string{"9223372036854775807", "9223372036854775808", "18446744073709551615", "18446744073709551616", "18446744073709551617", "36893488147419103232", "99999999999999999999999", strings.Repeat("9", 400), "1" + noughts(400)} {
		scale(t, "3e"+power, 0, 0, api.ErrReach)
		scale(t, "-3e+"+power, 9, 0, api.ErrReach)
		scale(t, "3e-"+power, 0, 0, api.ErrPrecision)
		scale(t, "-0.03E-"+power, 9, 0, api.ErrPrecision)
		scale(t, "5.5e"+power, 0, 0, api.ErrReach)
		scale(t, "0.0e"+power, 0, 0, api.OK)
		taken(t, "30e"+power, parts{"3", 1 << 40, false, true})
		taken(t, "-.03e+"+power, parts{"3", 1 << 40, true, true})
		taken(t, "-30E-"+power, parts{"3", -1 << 40, true, true})
		taken(t, ".03e-"+power, parts{"3", -1 << 40, false, true})
	}
}

// P10.3: powers around the greatest and the least that are told; noughts and the point count ahead of the bound.
func TestPowerBounds(t *testing.T) {
	const most = 1 << 40
	for by := -700; by <= 700; by++ {
		for _, at := range []int{most, -most, 0} {
			near := func(add int) int { return max(-most, min(at+by+add, most)) }
			behind := "e" + strconv.Itoa(at+by)
			taken(t, "7"+behind, parts{"7", near(0), false, true})
			taken(t, "-70.50"+behind, parts{"705", near(-1), true, true})
			taken(t, "1200"+behind, parts{"12", near(2), false, true})
			taken(t, "-0."+noughts(600)+"10"+behind, parts{"1", near(-601), true, true})
			taken(t, "5"+noughts(650)+".0"+behind, parts{"5", near(650), false, true})
		}
	}
}

// P10.1, P10.3: a long run of digits that a power takes back.
func TestLongRuns(t *testing.T) {
	for _, n := range []int{300, 4000, 1 << 20} {
		power := strconv.Itoa(n)
		scale(t, "1"+noughts(n)+"e-"+power, 2, 100, api.OK)
		scale(t, "-12"+noughts(n)+"e-"+strconv.Itoa(n+1), 1, -12, api.OK)
		scale(t, "0."+noughts(n)+"12E+"+power, 2, 12, api.OK)
		scale(t, "1"+noughts(n)+"1e-"+power, 9, 0, api.ErrPrecision)
		scale(t, "1"+noughts(n)+"e-"+strconv.Itoa(n-13), 0, 0, api.ErrReach)
		scale(t, "1"+noughts(n)+"e-"+strconv.Itoa(n-12), 0, 1_000_000_000_000, api.OK)
		scale(t, "1"+noughts(n)+"e-"+strconv.Itoa(n+10), 9, 0, api.ErrPrecision)
		scale(t, "1"+noughts(n)+"e-"+strconv.Itoa(n+9), 9, 1, api.OK)
		seven := strings.Repeat("7", n)
		taken(t, "-"+seven[:5]+"."+seven[5:]+"e-"+power, parts{seven, -2*n + 5, true, true})
	}
}

// P10.2: all units of few digits, and what Scale tells of their texts.
func TestTextSmall(t *testing.T) {
	for n := -3000; n <= 3000; n++ {
		for fine := range api.MaxFine + 1 {
			written(t, n, fine)
		}
	}
}

// P10.2: units around whole numbers and powers of two and ten, up to the limits and past them.
func TestTextGreat(t *testing.T) {
	for fine := range api.MaxFine + 1 {
		for k, ten, two := 0, 1, 1; k < 19; k, ten, two = k+1, ten*10, two<<3 {
			for _, around := range []int{ten, 3 * (ten / 2), 12 * (ten / 20), two, two * 7} {
				for by := -2; by <= 2; by++ {
					written(t, around+by, fine)
					written(t, -around+by, fine)
				}
			}
		}
		for by := range 3 {
			written(t, math.MaxInt-by, fine)
			written(t, math.MinInt+by, fine)
			written(t, api.MaxUnit-1+by, fine)
			written(t, -api.MaxUnit+1-by, fine)
		}
	}
}

// P10.2: many units between the limits come back.
func TestTextAndBack(t *testing.T) {
	n := 1
	for i := range 20000 {
		n = n*6364136223846793005 + 1442695040888963407
		units := n >> (23 + i%40)
		written(t, units, i%(api.MaxFine+1))
	}
}

// P10.2: texts by hand, in each unit.
func TestTextByHand(t *testing.T) {
	for fine, want := range []string{"-9223372036854775808", "-922337203685477580.8", "-92233720368547758.08", "-9223372036854775.808", "-922337203685477.5808", "-92233720368547.75808", "-9223372036854.775808", "-922337203685.4775808", "-92233720368.54775808", "-9223372036.854775808"} {
		text(t, math.MinInt, fine, want)
	}
	for fine, want := range []string{"1", "0.1", "0.01", "0.001", "0.0001", "0.00001", "0.000001", "0.0000001", "0.00000001", "0.000000001"} {
		text(t, 0, fine, "0")
		text(t, 1, fine, want)
		text(t, -1, fine, "-"+want)
		ten, _ := strconv.Atoi("1" + noughts(fine))
		text(t, 4070*ten, fine, "4070")
		text(t, -30*ten, fine, "-30")
	}
	text(t, math.MaxInt, 0, "9223372036854775807")
	text(t, math.MaxInt, 9, "9223372036.854775807")
	text(t, api.MaxUnit, 3, "1099511627.775")
	text(t, -api.MaxUnit, 9, "-1099.511627775")
	text(t, 1020300, 4, "102.03")
	text(t, -1000001, 6, "-1.000001")
}

// P10.3: digits by hand.
func TestDigitsByHand(t *testing.T) {
	taken(t, "7", parts{"7", 0, false, true})
	taken(t, "+7.", parts{"7", 0, false, true})
	taken(t, "-.7", parts{"7", -1, true, true})
	taken(t, "700", parts{"7", 2, false, true})
	taken(t, "007", parts{"7", 0, false, true})
	taken(t, "-0070.0700", parts{"7007", -2, true, true})
	taken(t, "12E+3", parts{"12", 3, false, true})
	taken(t, "12e-3", parts{"12", -3, false, true})
	taken(t, "1.20e-0", parts{"12", -1, false, true})
	taken(t, "98765432109876543210", parts{"9876543210987654321", 1, false, true})
}

// P10.1, P10.2: the chapter's examples.
func TestExamples(t *testing.T) {
	scale(t, "-1.25e1", 1, -125, api.OK)
	scale(t, "0.05", 1, 0, api.ErrPrecision)
	text(t, -125, 1, "-12.5")
	if n, e := decimal.Scale(decimal.Text(-125, 1), 1); n != -125 || e != api.OK {
		t.Errorf("Scale of Text: %d, %d", n, e)
	}
}
