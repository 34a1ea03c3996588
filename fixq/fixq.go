// Package fixq implements saturating fixed-point arithmetic: layer 1, see
// shared/doc/01-fixq.md.
//
// What does not fit into 32 bits is worked out exactly in 64 bits first, and
// saturated once at the end. Only Sum saturates on its way.
package fixq

import "math"

// maxBits is the greatest number of fraction bits, and the greatest shift: a
// 32-bit number times 2^31 still fits into 64 bits.
const maxBits = 31

// Sat returns n saturated to 32 bits.
func Sat(n int64) int32 {
	return int32(max(math.MinInt32, min(n, math.MaxInt32)))
}

// Add returns the exact sum of all, saturated.
func Add(l ...int32) int32 {
	// Saturating part by part would lose what later parts take back.
	var sum int64
	for _, n := range l {
		sum += int64(n)
	}
	return Sat(sum)
}

// Sub returns a - b, saturated.
func Sub(a, b int32) int32 { return Sat(int64(a) - int64(b)) }

// Neg returns -a, saturated.
func Neg(a int32) int32 { return Sat(-int64(a)) }

// Abs returns the magnitude of a, saturated.
func Abs(a int32) int32 { return max(a, Neg(a)) }

// Mul returns a b / 2^q, rounded down, saturated.
func Mul(a, b int32, q int) int32 {
	// A shift to the right rounds down, also below 0, where a division
	// would round toward 0.
	return Sat((int64(a) * int64(b)) >> fractionBits(q))
}

// Div returns a 2^q / b, rounded toward 0, saturated.
func Div(a, b int32, q int) int32 {
	if b == 0 {
		return bySign(a)
	}
	return Sat((int64(a) << fractionBits(q)) / int64(b))
}

// Clamp returns a limited to low .. high; low goes first if it is above high.
func Clamp(a, low, high int32) int32 {
	switch {
	case a < low:
		return low
	case a > high:
		return high
	}
	return a
}

// Shift returns a 2^by, rounded down, saturated.
func Shift(a int32, by int) int32 {
	// Limited before it is negated: the least int has no negative.
	by = max(-maxBits, min(by, maxBits))
	if by < 0 {
		return a >> -by
	}
	return Sat(int64(a) << by)
}

// Sum returns the sum of all, saturated to 64 bits at each step.
func Sum(l ...int64) int64 {
	var sum int64
	for _, n := range l {
		sum = plus(sum, n)
	}
	return sum
}

// Root returns the greatest number whose square is at most n, saturated; 0
// for a negative n.
func Root(n int64) int32 {
	var root int64
	// No bit above the 30th is tried, so that the root is saturated, and no
	// square overflows.
	for bit := int64(1 << 30); bit > 0; bit >>= 1 {
		if with := root | bit; with*with <= n {
			root = with
		}
	}
	return int32(root)
}

func fractionBits(q int) int { return max(0, min(q, maxBits)) }

func bySign(a int32) int32 {
	switch {
	case a > 0:
		return math.MaxInt32
	case a < 0:
		return math.MinInt32
	}
	return 0
}

func plus(a, b int64) int64 {
	switch {
	case b > 0 && a > math.MaxInt64-b:
		return math.MaxInt64
	case b < 0 && a < math.MinInt64-b:
		return math.MinInt64
	}
	return a + b
}
