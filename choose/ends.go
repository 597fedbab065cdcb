package choose

import (
	"foliot/api"
	"foliot/fixed"
)

const (
	endsOfOne = 3  // of a candidate
	unitBits  = 16 // a place is in units of 2^16 of a span's
)

// An end's kind is its imaginary part.
const (
	kindLow    = -1
	kindMiddle = 0
	kindHigh   = 1
)

func Ends(l []api.Cand) []complex128 {
	var ends []complex128
	for _, c := range counting(l) {
		ends = append(ends, lowEnd(c), middleEnd(c), highEnd(c))
	}
	sortEnds(ends)
	return ends
}

func lowEnd(c api.Cand) complex128 {
	return endAt(fixed.Shift(fixed.Sub(c.Offset, c.Dist), -unitBits), kindLow)
}

func middleEnd(c api.Cand) complex128 {
	return endAt(fixed.Shift(c.Offset, -unitBits), kindMiddle)
}

// highEnd is negated ahead of the division and behind it, as that divides up.
func highEnd(c api.Cand) complex128 {
	negated := fixed.Neg(fixed.Add(c.Dist, c.Offset))
	return endAt(fixed.Neg(fixed.Shift(negated, -unitBits)), kindHigh)
}

func endAt(place api.Span, kind int) complex128 {
	return complex(float64(place), float64(kind))
}

func kindOf(end complex128) int { return int(imag(end)) }

// spanOf is the end's place as a length of time.
func spanOf(end complex128) api.Span {
	return fixed.Shift(api.Span(real(end)), unitBits)
}

func sortEnds(ends []complex128) {
sorting:
	for i, moved := range ends {
		for place := i; place > 0; place-- {
			if !isAhead(moved, ends[place-1]) {
				ends[place] = moved
				continue sorting
			}
			ends[place] = ends[place-1]
		}
		ends[0] = moved
	}
}

func isAhead(a, b complex128) bool {
	if real(a) != real(b) {
		return real(a) < real(b)
	}
	return imag(a) < imag(b)
}
