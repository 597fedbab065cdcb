package clock

import (
	"foliot/api"
	"foliot/fixed"
)

// oscillator is what drives a clock, as the clock sees it.
type oscillator interface {
	// beat lets a second go by; it is how much more than that is counted.
	beat() api.Span
	// gain is how much more than that would be counted in so long a time; none goes by.
	gain(long api.Span) api.Span
}

// crystal is an oscillator with an error of its own, and a frequency that puts it right.
type crystal struct {
	rate, freq api.Freq
	rest       api.Freq // in 2^-48 seconds: what did not make a whole span yet
}

const restPlaces = 16 // spans are in 2^-32 seconds

func (x *crystal) beat() api.Span {
	x.rest += x.pace()
	// A shift divides down, below 0 too, so that what is left is never below 0.
	whole := x.rest >> restPlaces
	x.rest -= whole << restPlaces
	return api.Span(whole)
}

func (x *crystal) gain(long api.Span) api.Span { return fixed.Drift(x.pace(), long) }

// pace is not cut: each of both is, but not what they come to together.
func (x *crystal) pace() api.Freq { return x.rate + x.freq }

func (c *Clock) drive() oscillator { return &c.crystal }
