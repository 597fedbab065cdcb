package clock_test

import (
	"testing"

	"foliot/api"
	"foliot/stamp"
)

// rightings are both ways to put an error right.
var rightings = []func(x *pair, d api.Span){(*pair).slew, (*pair).step}

// P16.5: the error is more by what is handed in, and saturates either way; nothing else changes.
func TestSlewAndStep(t *testing.T) {
	for _, right := range rightings {
		for _, x := range []struct{ error, d, want api.Span }{
			{0, 0, 0}, {0, 5, 5}, {0, -5, -5}, {7, -5, 2}, {-7, 5, -2}, {5, -2 * second, 5 - 2*second},
			{0, most, most}, {0, most + 1, most}, {0, top, most}, {0, -most, -most}, {0, -most - 1, -most}, {0, lowest, -most},
			{most, 0, most}, {most, 1, most}, {most, most, most}, {most, top, most}, {most, -1, most - 1}, {most, -most, 0}, {most, lowest + 1, 1 - most}, {most, lowest, -most},
			{-most, 0, -most}, {-most, -1, -most}, {-most, -most, -most}, {-most, lowest, -most}, {-most, 1, 1 - most}, {-most, most, 0}, {-most, top, most - 1},
			{most - 1, 1, most}, {most - 1, 2, most}, {1 - most, -1, -most}, {1 - most, -2, -most}, {-1, top, most}, {1, lowest, -most},
		} {
			c := pairOf(t, stamp.Date{Era: 7, At: 5 * s}, x.error, 3)
			c.setFreq(4)
			right(c, x.d)
			c.errs(x.want)
			if c.c.True() != 5*s || c.c.Rate() != 3 || c.c.Freq() != 4 || c.c.Seconds() != 0 {
				t.Errorf("behind %d it tells %+v", x.d, tells(c.c))
			}
		}
	}
}

// P16.5: one behind the other, of either kind, they come to their sum.
func TestSlewsAddUp(t *testing.T) {
	x := pairOf(t, stamp.Date{At: 5 * s}, 100, 0)
	sum := api.Span(100)
	for i := range 50 {
		d := api.Span(i*i*i - 30000)
		rightings[i%2](x, d)
		sum += d
		x.errs(sum)
	}
	x.passes(10, sum)
}

// P16.5: the rate and the frequency are cut, each for itself, as often as they are set; all else stays.
func TestSetRates(t *testing.T) {
	for _, a := range rates {
		for _, b := range rates {
			x := pairOf(t, stamp.Date{At: 5 * s}, 9, 1)
			x.setFreq(a.f)
			if x.c.Freq() != a.counts || x.c.Rate() != 1 {
				t.Errorf("behind SetFreq(%d) it tells %+v", a.f, tells(x.c))
			}
			x.setRate(b.f)
			if x.c.Freq() != a.counts || x.c.Rate() != b.counts || x.c.Error() != 9 || x.c.Now() != 5*s+9 {
				t.Errorf("behind SetFreq(%d), SetRate(%d) it tells %+v", a.f, b.f, tells(x.c))
			}
			// What they are cut to goes on.
			x.passes(1<<8, 9+api.Span((a.counts+b.counts)>>8))
			x.setFreq(b.f)
			x.setRate(a.f)
			if x.c.Freq() != b.counts || x.c.Rate() != a.counts {
				t.Errorf("behind SetFreq(%d), SetRate(%d) it tells %+v", b.f, a.f, tells(x.c))
			}
		}
	}
}

// P16.5: what is set holds from the next second on, till it is set again.
func TestSetWithin(t *testing.T) {
	x := pairOf(t, stamp.Date{At: 5 * s}, 0, 2*65536)
	x.passes(10, 20)
	x.setFreq(-65536)
	x.passes(10, 30)
	x.setFreq(-2 * 65536)
	x.passes(10, 30)
	x.setRate(-65536)
	x.passes(10, 0)
	x.setFreq(0)
	x.passes(10, -10)
	x.setRate(0)
	x.passes(10, -10)
}
