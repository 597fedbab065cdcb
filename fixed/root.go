package fixed

import (
	"math/bits"

	"foliot/api"
)

// mostSquares is how many elements of a list RMS looks at.
const mostSquares = 64

func Root(a api.Span) api.Span {
	if a <= 0 {
		return 0
	}
	high, low := bits.Mul64(uint64(a), uint64(api.Second))
	return api.Span(root([2]uint64{high, low}))
}

func RMS(l []api.Span) api.Span {
	l = l[:min(len(l), mostSquares)]
	if len(l) == 0 {
		return 0
	}
	return api.Span(root(meanSquare(l)))
}

// meanSquare is the sum of the squares of l, whose elements are saturated, divided down by how many they are; l has some, at most mostSquares.
func meanSquare(l []api.Span) [2]uint64 {
	// A third word, as 16 squares of MaxSpan are already more than 128 bits hold.
	var top, high, low uint64
	for _, a := range l {
		distance := uint64(Abs(a))
		squareHigh, squareLow := bits.Mul64(distance, distance)
		var carry uint64
		low, carry = bits.Add64(low, squareLow, 0)
		high, carry = bits.Add64(high, squareHigh, carry)
		top += carry
	}
	count := uint64(len(l))
	// Div64 does not panic: a mean is at most 2^124, so top is less than count.
	meanHigh, rest := bits.Div64(top, high, count)
	meanLow, _ := bits.Div64(rest, low, count)
	return [2]uint64{meanHigh, meanLow}
}

// root is the greatest whole number whose square is at most the one of the two words, the higher one first.
func root(square [2]uint64) uint64 {
	var found uint64
digits:
	for place := 63; place >= 0; place-- {
		tried := found | 1<<place
		high, low := bits.Mul64(tried, tried)
		for i, word := range [2]uint64{high, low} {
			if word > square[i] {
				continue digits
			}
			if word < square[i] {
				break
			}
		}
		found = tried
	}
	return found
}
