package cluster

import (
	"foliot/api"
	"foliot/fixed"
)

const (
	mostCombined = 16
	mostWeight   = 1 << 40
	weightBits   = 8 // what a weight does not tell of a Dist
)

func Combine(l []api.Cand) (api.Span, api.Span) {
	if len(l) == 0 {
		return 0, 0
	}
	l = l[:min(len(l), mostCombined)]
	all := 0
	for _, c := range l {
		all += weight(c)
	}
	first := l[0]
	offset := first.Offset
	for _, c := range l[1:] {
		offset = fixed.Add(offset, fixed.Scale(fixed.Sub(c.Offset, first.Offset), weight(c), all))
	}
	return offset, max(first.Jitter, selectJitter(l, 0))
}

// weight is 0, if the Dist is above 2^48 by so much that the quotient is less than 1.
func weight(c api.Cand) int {
	return mostWeight / int(max(fixed.Shift(c.Dist, -weightBits), 1))
}
