package wide

import "math/bits"

const (
	words    = 4
	topBit   = 1 << 63
	longest  = 78  // -2^255 has 77 digits, and its sign
	rootBits = 128 // 2^128 has a square that is no Int
	maxPower = 256
)

// size is a number from 0 to 2^256 - 1. It stands beside Int because the size of the least Int is no Int.
type size [words]uint64

func sizeOf(a Int) size {
	if a.below() {
		return size{}.minus(size(a))
	}
	return size(a)
}

func (x size) signed(below bool) (Int, bool) {
	if below {
		x = size{}.minus(x)
	}
	// 0 has no other sign, so that it stands on the side that isn't below.
	if a := Int(x); a == (Int{}) || a.below() == below {
		return a, true
	}
	return Int{}, false
}

func (x size) less(y size) bool {
	for i := range words {
		at := words - 1 - i
		if x[at] != y[at] {
			return x[at] < y[at]
		}
	}
	return false
}

func (x size) length() int {
	for i := range words {
		at := words - 1 - i
		if x[at] != 0 {
			return at*64 + bits.Len64(x[at])
		}
	}
	return 0
}

// plus goes around at 2^256, so that it serves two's complements too.
func (x size) plus(y size) size {
	var sum size
	var carry uint64
	for i := range words {
		sum[i], carry = bits.Add64(x[i], y[i], carry)
	}
	return sum
}

// minus goes around at 0, so that it serves two's complements too.
func (x size) minus(y size) size {
	var rest size
	var borrow uint64
	for i := range words {
		rest[i], borrow = bits.Sub64(x[i], y[i], borrow)
	}
	return rest
}

func (x size) doubled() size {
	var double size
	var carry uint64
	for i := range words {
		double[i], carry = x[i]<<1|carry, x[i]>>63
	}
	return double
}

func (x size) halved() size {
	var half size
	var carry uint64
	for i := range words {
		at := words - 1 - i
		half[at], carry = x[at]>>1|carry, x[at]<<63
	}
	return half
}

func (x size) times(y size) (size, bool) {
	var both [2 * words]uint64
	for i := range words {
		if x[i] == 0 {
			continue // most numbers are short
		}
		var carry uint64
		for j := range words {
			carry, both[i+j] = timesPlus(x[i], y[j], both[i+j], carry)
		}
		both[i+words] = carry
	}
	var low, high size
	for i := range words {
		low[i], high[i] = both[i], both[i+words]
	}
	if high != (size{}) {
		return size{}, false
	}
	return low, true
}

// timesPlus is a b + c + d, which is at most 2^128 - 1, in two words.
func timesPlus(a, b, c, d uint64) (high, low uint64) {
	high, low = bits.Mul64(a, b)
	var carry uint64
	low, carry = bits.Add64(low, c, 0)
	high += carry
	low, carry = bits.Add64(low, d, 0)
	return high + carry, low
}

// lengthened has one more digit at its end.
func (x size) lengthened(base, digit uint64) (size, bool) {
	for i := range words {
		digit, x[i] = timesPlus(x[i], base, digit, 0)
	}
	if digit != 0 {
		return size{}, false
	}
	return x, true
}

// shortened is without its last digit, and that digit.
func (x size) shortened(base uint64) (size, uint64) {
	var digit uint64
	for i := range words {
		at := words - 1 - i
		x[at], digit = bits.Div64(digit, x[at], base)
	}
	return x, digit
}

// divided goes through no more bits than the quotient may have: Common divides often, mostly with short quotients.
func (x size) divided(y size) (quotient, rest size) {
	more := x.length() - y.length()
	for range more {
		y = y.doubled()
	}
	for range more + 1 {
		quotient = quotient.doubled()
		if !x.less(y) {
			x = x.minus(y)
			quotient[0] |= 1
		}
		y = y.halved()
	}
	return quotient, x
}
