package clock_test

import (
	"testing"

	"foliot/api"
	"foliot/clock"
	"foliot/stamp"
)

// eras are those of a begin beside what each counts as.
var eras = []struct{ given, counts int }{
	{least, 0}, {-1 << 32, 0}, {-1001, 0}, {-1000, -1000}, {-999, -999}, {-14, -14}, {-1, -1},
	{0, 0}, {1, 1}, {2, 2}, {999, 999}, {1000, 1000}, {1001, 0}, {5000, 0}, {1 << 32, 0}, {greatest, 0},
}

// stamps are edges of an era.
var stamps = []api.Stamp{0, 1, s, 1 << 62, 1<<63 - 1, 1 << 63, 3 << 62, last - s, last - 1, last}

// P16.1: true time is begin, with the Era 0 if its Era may not be; its At stays in any case.
func TestNewBegin(t *testing.T) {
	for _, x := range eras {
		for _, at := range stamps {
			c := pairOf(t, stamp.Date{Era: x.given, At: at}, 0, 0).c
			if want := (stamp.Date{Era: x.counts, At: at}); c.Date() != want || c.True() != at || c.Now() != at {
				t.Errorf("of the era %d, At %d it tells %v, %d, %d", x.given, at, c.Date(), c.True(), c.Now())
			}
		}
	}
}

// P16.1: the error is cut at MaxSpan either way.
func TestNewError(t *testing.T) {
	for _, x := range spans {
		pairOf(t, stamp.Date{Era: 3, At: 9 * s}, x.given, 0).errs(x.counts)
	}
}

// P16.1, Words: the rate is cut, the frequency is 0; what the rate is cut to goes on, it is no mere matter of telling.
func TestNewRate(t *testing.T) {
	for _, x := range rates {
		p := pairOf(t, stamp.Date{At: 9 * s}, 5, x.f)
		if p.c.Rate() != x.counts || p.c.Freq() != 0 {
			t.Errorf("of the rate %d Rate is %d, Freq %d", x.f, p.c.Rate(), p.c.Freq())
		}
		p.passes(1<<10, 5+api.Span(x.counts>>6))
	}
}

// P16.1: the rest is 0: a rate of 65536 is wanted for a whole span more, and -1 is enough for one less.
func TestNewRest(t *testing.T) {
	pairOf(t, stamp.Date{}, 0, 65535).passes(1, 0)
	pairOf(t, stamp.Date{}, 0, 65536).passes(1, 1)
	pairOf(t, stamp.Date{}, 0, -1).passes(1, -1)
	for _, rate := range []api.Freq{0, 1, -1, fastest} {
		pairOf(t, stamp.Date{}, 7, rate).rests(0)
	}
}

// P16.1: no leap is ordered.
func TestNewLeap(t *testing.T) {
	x := clockAt(t, day-2)
	x.passes(5, 0)
	x.passes(3*day, 0)
}

// P16.1: no second has passed: MaxTick of them may.
func TestNewSeconds(t *testing.T) {
	c := clock.New(stamp.Date{}, 0, 0)
	if c.Seconds() != 0 {
		t.Errorf("%d seconds have passed", c.Seconds())
	}
	if e := c.Pass(life); e != api.OK || c.Seconds() != life {
		t.Errorf("Pass is %d, %d seconds have passed", e, c.Seconds())
	}
}
