package filter

import (
	"foliot/api"
	"foliot/fixed"
	"foliot/stamp"
)

const (
	mostDisp    = 16 * api.Second      // of a sample, and of one that is wanting
	growth      = api.Freq(4222124650) // of a dispersion: 15 millionths
	leastJitter = api.Span(1) << 12
)

// dispersion is of all stages together; sorted are at most as many.
func dispersion(sorted []api.Sample, now api.Stamp) api.Span {
	sum := api.Span(0)
	for place := range api.Stages {
		part := mostDisp
		if place < len(sorted) {
			part = grown(sorted[place], now)
		}
		// All parts together are below mostDisp: nothing saturates.
		sum += fixed.Shift(part, -place-1)
	}
	return sum
}

// grown is the dispersion of s at now.
func grown(s api.Sample, now api.Stamp) api.Span {
	age := max(stamp.Since(now, s.At), 0)
	return min(max(fixed.Add(s.Disp, fixed.Drift(growth, age)), 0), mostDisp)
}

// jitter is how far the others' offsets lie from the first one's; there is a first one.
func jitter(sorted []api.Sample) api.Span {
	var room [api.Stages]api.Span
	differences := room[:len(sorted)-1]
	for i := range differences {
		differences[i] = fixed.Sub(sorted[i+1].Offset, sorted[0].Offset)
	}
	return max(fixed.RMS(differences), leastJitter)
}
