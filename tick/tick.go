// Package tick is layer 1, arithmetic on numbers of ticks: see shared/doc/01-tick.md.
package tick

import (
	"math"
	"math/bits"

	"remontoir/api"
)

// digitBits is exact because api.Slots is a power of two: a digit is a field of bits.
const (
	digitBits = 6
	lastShift = digitBits * (api.Places - 1)
	lastDigit = math.MaxUint64 >> lastShift
)

// Sum returns a + b and true, or 0 and false if it is no number of ticks.
func Sum(a, b uint64) (uint64, bool) {
	sum, carry := bits.Add64(a, b, 0)
	if carry != 0 {
		return 0, false
	}
	return sum, true
}

// Times returns a * b and true, or 0 and false if it is no number of ticks.
func Times(a, b uint64) (uint64, bool) {
	high, low := bits.Mul64(a, b)
	if high != 0 {
		return 0, false
	}
	return low, true
}

// Held returns a + b, held at the greatest number of ticks.
func Held(a, b uint64) uint64 {
	sum, ok := Sum(a, b)
	if !ok {
		return math.MaxUint64
	}
	return sum
}

// Digits returns the digits of x in base api.Slots, least significant first.
func Digits(x uint64) [api.Places]int {
	var digits [api.Places]int
	for place := range digits {
		digits[place] = int(x % api.Slots)
		x /= api.Slots
	}
	return digits
}

// Of returns the number with the digits d and true, or 0 and false if there is no such number.
func Of(d [api.Places]int) (uint64, bool) {
	// Eleven digits hold 66 bits: the last one has room for four of its six.
	if d[api.Places-1] > lastDigit {
		return 0, false
	}
	var number uint64
	for place, digit := range d {
		if digit < 0 || digit >= api.Slots {
			return 0, false
		}
		number |= uint64(digit) << (digitBits * place)
	}
	return number, true
}

// Top returns the highest index at which the digits of a and b differ, or -1 if a equals b.
func Top(a, b uint64) int {
	if a == b {
		return -1
	}
	return (bits.Len64(a^b) - 1) / digitBits
}
