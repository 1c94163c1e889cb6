// Package wide is layer 1: whole numbers of 256 bits (see shared/doc/01-wide.md).
package wide

import "strings"

// Int is a number from -2^255 to 2^255 - 1, as two's complement: the lowest 64 bits in the first place.
type Int [4]uint64

// Of: a number.
func Of(n int) Int {
	high := uint64(int64(n) >> 63)
	return Int{uint64(n), high, high, high}
}

func (a Int) below() bool { return a[words-1]&topBit != 0 }

// Add: the sum.
func (a Int) Add(b Int) (Int, bool) {
	sum := Int(size(a).plus(size(b)))
	// Numbers of different signs have a sum between them, so only those of one sign can leave the range.
	if a.below() == b.below() && sum.below() != a.below() {
		return Int{}, false
	}
	return sum, true
}

// Sub: the difference.
func (a Int) Sub(b Int) (Int, bool) {
	rest := Int(size(a).minus(size(b)))
	// Not a plus b's Neg: the least number has none, but may well be taken away from one below 0.
	if a.below() != b.below() && rest.below() != a.below() {
		return Int{}, false
	}
	return rest, true
}

// Mul: the product.
func (a Int) Mul(b Int) (Int, bool) {
	product, ok := sizeOf(a).times(sizeOf(b))
	if !ok {
		return Int{}, false
	}
	return product.signed(a.below() != b.below())
}

// Neg: with the other sign.
func (a Int) Neg() (Int, bool) { return Int{}.Sub(a) }

// Div: the quotient, rounded down, and the rest.
func (a Int) Div(b Int) (q, r Int, ok bool) {
	if b == (Int{}) {
		return Int{}, Int{}, false
	}
	low, rest := sizeOf(a).divided(sizeOf(b))
	differ := a.below() != b.below()
	if differ && rest != (size{}) {
		// A quotient below 0 that is rounded towards 0 lies one too high.
		low, rest = low.plus(size{1}), sizeOf(b).minus(rest)
	}
	if q, ok = low.signed(differ); !ok {
		return Int{}, Int{}, false
	}
	r, ok = rest.signed(b.below())
	return q, r, ok
}

// Cmp: which one is greater.
func (a Int) Cmp(b Int) int {
	if a == b {
		return 0
	}
	// With their top bits turned over, two's complements stand in the order of their numbers.
	a[words-1] ^= topBit
	b[words-1] ^= topBit
	if size(a).less(size(b)) {
		return -1
	}
	return 1
}

// Sign: held against 0.
func (a Int) Sign() int { return a.Cmp(Int{}) }

// Small: as an int.
func (a Int) Small() (int, bool) {
	n := int(a[0])
	if a != Of(n) {
		return 0, false
	}
	return n, true
}

// Text: its digits.
func (a Int) Text() string {
	var text [longest]byte
	at := longest
	rest, digit := sizeOf(a), uint64(0)
	for at == longest || rest != (size{}) { // 0 has a digit too
		rest, digit = rest.shortened(10)
		at--
		text[at] = '0' + byte(digit)
	}
	if a.below() {
		at--
		text[at] = '-'
	}
	return string(text[at:])
}

// Parse: the number of digits.
func Parse(s string) (Int, bool) {
	digits, below := strings.CutPrefix(s, "-")
	if digits == "" || digits[0] == '0' && s != "0" {
		return Int{}, false
	}
	var n size
	for i := range len(digits) {
		c := digits[i]
		if c < '0' || c > '9' {
			return Int{}, false
		}
		var ok bool
		if n, ok = n.lengthened(10, uint64(c-'0')); !ok {
			return Int{}, false
		}
	}
	return n.signed(below)
}

// Bits: how many its size has.
func (a Int) Bits() int { return sizeOf(a).length() }

// Common: the greatest number that divides two.
func Common(a, b Int) (Int, bool) {
	x, y := sizeOf(a), sizeOf(b)
	for y != (size{}) {
		_, rest := x.divided(y)
		x, y = y, rest
	}
	return x.signed(false)
}

// Root: the greatest number whose square isn't above one.
func (a Int) Root() (Int, bool) {
	if a.below() {
		return Int{}, false
	}
	var root Int
	for i := range rootBits {
		bit := rootBits - 1 - i
		longer := root
		longer[bit/64] |= 1 << (bit % 64)
		if square, ok := longer.Mul(longer); ok && square.Cmp(a) <= 0 {
			root = longer
		}
	}
	return root, true
}

// Power: a number, so many times by itself.
func (a Int) Power(n int) (Int, bool) {
	if n < 0 || n > maxPower {
		return Int{}, false
	}
	power := Of(1)
	for range n {
		var ok bool
		if power, ok = power.Mul(a); !ok {
			return Int{}, false
		}
	}
	return power, true
}
