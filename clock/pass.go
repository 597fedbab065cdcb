package clock

import (
	"foliot/api"
	"foliot/fixed"
	"foliot/stamp"
)

const (
	eraPlaces    = 32 // an era has 2^32 seconds
	secondPlaces = 32 // a second has 2^32 parts
	daySeconds   = 24 * 60 * 60
)

// asked is a clock, as who asks it for its date sees it.
type asked interface{ Date() stamp.Date }

// righted is a clock, as who puts it right sees it.
type righted interface{ Step(d api.Span) }

func (c *Clock) Pass(seconds int) api.Errno {
	// A sum of both might not fit into 64 bits.
	if seconds < 0 || seconds > api.MaxTick-c.passed {
		return api.ErrArg
	}
	for range seconds {
		c.second()
	}
	return api.OK
}

// second lets one second pass.
func (c *Clock) second() {
	before := dayOf(c)
	c.passed++
	c.truth = later(c.truth, api.Second)
	c.ahead = fixed.Add(c.ahead, c.drive().beat())
	if dayOf(c) > before {
		leapBy(c, c.leap)
		c.leap = api.LeapNone
	}
}

// dayOf is how many days a clock's date lies behind the beginning of the era 0.
func dayOf(a asked) int {
	d := a.Date()
	second := d.Era<<eraPlaces + int(d.At>>secondPlaces)
	day := second / daySeconds
	if second%daySeconds < 0 {
		day--
	}
	return day
}

// leapBy puts a clock right at the end of a day that had a second more, or less, than it counted.
func leapBy(r righted, leap int) {
	switch leap {
	case api.LeapInsert:
		r.Step(-api.Second)
	case api.LeapDelete:
		r.Step(api.Second)
	}
}
