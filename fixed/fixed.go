// Package fixed is layer 1: whole numbers for lengths of time. See shared/doc/01-fixed.md.
//
// Arguments may be any numbers of 64 bits, spans above MaxSpan too. So nothing is saturated ahead of the reckoning: only the answer is.
package fixed

import (
	"math/bits"

	"foliot/api"
)

// freqUnit: rates are in 2^-48 seconds a second.
const freqUnit = int64(1) << 48

func Add(a, b api.Span) api.Span {
	sum := a + b
	// A sum is too large for 64 bits just where both have the same sign and it has the other one.
	if a >= 0 && b >= 0 && sum < 0 {
		return api.MaxSpan
	}
	if a < 0 && b < 0 && sum >= 0 {
		return -api.MaxSpan
	}
	return bound(sum, api.MaxSpan)
}

// Sub is not Add of Neg: the least number has no negative of 64 bits.
func Sub(a, b api.Span) api.Span {
	difference := a - b
	if a >= 0 && b < 0 && difference < 0 {
		return api.MaxSpan
	}
	if a < 0 && b >= 0 && difference >= 0 {
		return -api.MaxSpan
	}
	return bound(difference, api.MaxSpan)
}

func Neg(a api.Span) api.Span {
	return Sub(0, a)
}

func Abs(a api.Span) api.Span {
	if a < 0 {
		return Neg(a)
	}
	return bound(a, api.MaxSpan)
}

func Mean(a, b api.Span) api.Span {
	// a + b is twice the bits they share and once those they do not; put so, the half is never too large for 64 bits.
	return bound((a&b)+(a^b)>>1, api.MaxSpan)
}

func Clamp(a, most api.Span) api.Span {
	if most < 0 {
		return 0
	}
	return bound(a, min(most, api.MaxSpan))
}

func Mul(a, b api.Span) api.Span {
	return quotient(int64(a), int64(b), int64(api.Second), api.MaxSpan)
}

func Scale(a api.Span, num, den int) api.Span {
	if den <= 0 {
		return 0
	}
	return quotient(int64(a), int64(num), int64(den), api.MaxSpan)
}

func Shift(a api.Span, n int) api.Span {
	if n < 0 {
		// Behind 63 places only the sign is left; and the least n has no negative.
		return a >> -max(n, -63)
	}
	most := api.MaxSpan >> n
	if a > most {
		return api.MaxSpan
	}
	if a < -most {
		return -api.MaxSpan
	}
	return a << n
}

func Power(n int) api.Span {
	return Shift(api.Second, n)
}

func Log(a api.Span) int {
	// 33: a second has that many digits; no digits at all make the -33 that is asked for of 0.
	return bits.Len64(uint64(max(a, 0))) - 33
}

func Drift(f api.Freq, s api.Span) api.Span {
	return quotient(int64(f), int64(s), freqUnit, api.MaxSpan)
}

func Rate(a, s api.Span) api.Freq {
	if s <= 0 {
		return 0
	}
	return quotient(int64(a), freqUnit, int64(s), api.MaxFreq)
}

func Cut(f api.Freq) api.Freq {
	return bound(f, api.MaxFreq)
}

// bound is a, cut at most and its negative; most is not below 0.
func bound[T ~int64](a, most T) T {
	return max(-most, min(a, most))
}

// quotient is a * b / d, divided down, cut at most and its negative; d is above 0, most not below it.
func quotient[T ~int64](a, b, d int64, most T) T {
	below := (a < 0) != (b < 0)
	found := most
	high, low := bits.Mul64(size(a), size(b))
	// Else the quotient has more than 64 bits, and Div64 would panic.
	if high < uint64(d) {
		whole, rest := bits.Div64(high, low, uint64(d))
		// What is below most may be one more without wrapping.
		if whole < uint64(most) {
			found = T(whole)
			if below && rest > 0 {
				found++
			}
		}
	}
	if below {
		return -found
	}
	return found
}

// size is how far a is from 0. It has no sign, as that of the least number is 2^63.
func size(a int64) uint64 {
	if a < 0 {
		return -uint64(a)
	}
	return uint64(a)
}
