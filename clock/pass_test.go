package clock_test

import (
	"testing"

	"foliot/api"
	"foliot/clock"
	"foliot/stamp"
)

// refused are numbers of seconds that may not pass, whatever passed.
var refused = []int{least, least + 1, -life, -2, -1, life + 1, life + 2, 1 << 32, 1<<32 + 1, 1 << 62, greatest - life, greatest - 1, greatest}

// P16.2: true time is later by each second, Seconds are more; without a rate nothing else changes.
func TestPass(t *testing.T) {
	x := pairOf(t, stamp.Date{Era: 2, At: 10*s + 7}, 5, 0)
	passed := 0
	for _, n := range []int{0, 1, 0, 0, 2, 1, 59, 3600, 86400} {
		x.passes(n, 5)
		passed += n
		want := stamp.Date{Era: 2, At: 10*s + 12 + api.Stamp(passed)*s}
		if x.c.Seconds() != passed || x.c.True() != want.At-5 || x.c.Now() != want.At || x.c.Date() != want {
			t.Errorf("behind %d seconds it tells %+v", passed, tells(x.c))
		}
	}
}

// P16.2: MaxTick seconds may pass in all, in one call or in some, not one more.
func TestPassMost(t *testing.T) {
	for _, parts := range [][]int{{life}, {0, life, 0}, {1, life - 1}, {life - 1, 1}, {life / 2, life / 2}, {5, 0, life - 12, 7}} {
		c := clock.New(stamp.Date{At: 9 * s}, 5, 0)
		passed := 0
		for _, n := range parts {
			for _, more := range []int{life - passed + 1, life - passed + 2, greatest - passed, greatest, -1} {
				if e := c.Pass(more); e != api.ErrArg || c.Seconds() != passed {
					t.Errorf("behind %d seconds Pass(%d) is %d", passed, more, e)
				}
			}
			passed += n
			if e := c.Pass(n); e != api.OK || c.Seconds() != passed {
				t.Errorf("Pass(%d) is %d, %d seconds passed, not %d", n, e, c.Seconds(), passed)
			}
		}
		if e := c.Pass(0); e != api.OK {
			t.Errorf("at the end Pass(0) is %d", e)
		}
		for _, n := range append(refused, 1, 2, life) {
			if e := c.Pass(n); e != api.ErrArg || c.Seconds() != life || c.True() != (9+life)*s || c.Error() != 5 {
				t.Errorf("at the end Pass(%d) is %d, and it tells %+v", n, e, tells(c))
			}
		}
	}
}

// refusable are clocks with something to lose: a rest, a leap that is ordered, an error that saturates.
func refusable(t *testing.T) []*pair {
	t.Helper()
	leaping := pairOf(t, dateAt(day-4), 5, 65535)
	leaping.orders(api.LeapInsert)
	leaping.passes(1, 5)
	full := pairOf(t, stamp.Date{Era: -1, At: last}, most, fastest)
	full.setFreq(1)
	full.passes(3, most)
	low := pairOf(t, dateAt(2-1<<32), -most, -5)
	low.orders(api.LeapDelete)
	return []*pair{clockAt(t, 0), leaping, full, low}
}

// P16.2, R2: a refused Pass changes nothing at all: whatever comes behind it is what it would have been.
func TestRefusedChangesNothing(t *testing.T) {
	for _, n := range append(refused, life) {
		for i, x := range refusable(t) {
			plain := refusable(t)[i]
			x.pass(1)
			plain.pass(1)
			for range 5 {
				was := tells(x.c)
				x.refuses(n)
				if got := tells(x.c); got != was {
					t.Fatalf("Pass(%d) makes %+v of %+v", n, got, was)
				}
				x.pass(1)
				plain.pass(1)
				if got, want := tells(x.c), tells(plain.c); got != want {
					t.Fatalf("behind Pass(%d) it tells %+v, not %+v", n, got, want)
				}
			}
			x.step(-x.c.Error())
			x.rests(plainRest(plain))
		}
	}
}

// plainRest is what the promises say of the rest.
func plainRest(x *pair) api.Freq { return api.Freq(left(x.m.fine, pow(16)).Int64()) }

// P16.2: how much a second makes the error more, and what rest it leaves: the rest is divided down, with a rate above and below 0.
func TestRest(t *testing.T) {
	for _, x := range []struct {
		rest, rate api.Freq
		more       api.Span
		left       api.Freq
	}{
		{0, 0, 0, 0}, {0, 1, 0, 1}, {0, 65535, 0, 65535}, {0, 65536, 1, 0}, {0, 65537, 1, 1}, {0, 3*65536 + 1, 3, 1},
		{0, -1, -1, 65535}, {0, -65535, -1, 1}, {0, -65536, -1, 0}, {0, -65537, -2, 65535}, {0, -3*65536 - 1, -4, 65535},
		{1, 0, 0, 1}, {1, 65534, 0, 65535}, {1, 65535, 1, 0}, {1, -1, 0, 0}, {1, -2, -1, 65535}, {1, -65536, -1, 1}, {1, -65537, -1, 0}, {1, -65538, -2, 65535},
		{65535, 0, 0, 65535}, {65535, 1, 1, 0}, {65535, 2, 1, 1}, {65535, 65536, 1, 65535}, {65535, 65537, 2, 0},
		{65535, -1, 0, 65534}, {65535, -65535, 0, 0}, {65535, -65536, -1, 65535}, {65535, -65537, -1, 65534},
		{0, fastest, 2147483, 42467}, {65535, fastest, 2147484, 42466}, {0, -fastest, -2147484, 23069}, {65535, -fastest, -2147483, 23068},
	} {
		for _, parts := range [][2]api.Freq{{x.rate, 0}, {0, x.rate}, {x.rate - 7, 7}, {x.rate / 3, x.rate - x.rate/3}} {
			if parts[0] < -fastest || parts[0] > fastest {
				continue
			}
			c := pairOf(t, stamp.Date{At: 5 * s}, 100, x.rest)
			c.passes(1, 100)
			c.setRate(parts[0])
			c.setFreq(parts[1])
			c.passes(1, 100+x.more)
			c.rests(x.left)
			c.errs(100 + x.more)
		}
	}
}

// P16.2: the sum of the rate and the frequency is not cut.
func TestPassSum(t *testing.T) {
	x := pairOf(t, stamp.Date{At: 5 * s}, 0, fastest)
	x.setFreq(fastest)
	// 2 * 140737488355 = 4294967 * 65536 + 19398
	x.passes(1, 4294967)
	x.rests(19398)
	x = pairOf(t, stamp.Date{At: 5 * s}, 0, -fastest)
	x.setFreq(-fastest)
	x.passes(1, -4294968)
	x.rests(65536 - 19398)
	x = pairOf(t, stamp.Date{At: 5 * s}, 0, -fastest)
	x.setFreq(fastest)
	x.passes(1000, 0)
	x.rests(0)
	x.setFreq(fastest - 1)
	x.passes(1000, -1)
	x.rests(65536 - 1000)
}

// P16.2: another rate, another frequency, a slew and a step leave the rest.
func TestRestStays(t *testing.T) {
	for _, change := range []func(x *pair){
		func(x *pair) {},
		func(x *pair) { x.setRate(fastest) },
		func(x *pair) { x.setFreq(-fastest) },
		func(x *pair) { x.slew(second); x.slew(-second) },
		func(x *pair) { x.step(-1); x.step(1) },
		func(x *pair) { x.orders(api.LeapInsert) },
		func(x *pair) { x.refuses(-1) },
		func(x *pair) { x.passes(0, 0) },
		func(x *pair) { x.c.At(second); x.c.Now() },
	} {
		x := pairOf(t, stamp.Date{At: 5 * s}, 0, 12345)
		x.passes(1, 0)
		change(x)
		x.rests(12345)
	}
}

// P16.2: the error saturates either way, and stays there as long as it is driven there; the rest is what is left all the same.
func TestErrorSaturates(t *testing.T) {
	x := pairOf(t, stamp.Date{At: 5 * s}, most-2, 65536)
	for _, want := range []api.Span{most - 1, most, most, most} {
		x.passes(1, want)
	}
	x.setRate(65535)
	x.passes(1, most)
	x.setRate(1)
	x.step(-5)
	x.passes(1, most-4)
	x.setRate(fastest)
	x.passes(1000, most)
	x.setRate(-65536)
	x.passes(1, most-1)
	x = pairOf(t, stamp.Date{At: 5 * s}, 2-most, -65536)
	for _, want := range []api.Span{1 - most, -most, -most, -most} {
		x.passes(1, want)
	}
	x.setRate(-1)
	x.passes(1, -most)
	// The rest is 65535 now.
	x.setRate(1)
	x.passes(1, 1-most)
	x.setRate(-fastest)
	x.passes(1000, -most)
	x.setRate(65536)
	x.passes(3, 3-most)
}

// P16.2: true time passes the end of an era, and the clock with it, whatever the era.
func TestPassEra(t *testing.T) {
	for _, era := range []int{-1000, -999, -2, -1, 0, 1, 2, 999, 1000} {
		for _, part := range []api.Stamp{0, 1, s - 1} {
			x := pairOf(t, stamp.Date{Era: era, At: last - 2*s + 1 + part}, 0, 0)
			for _, want := range []stamp.Date{{Era: era, At: last - s + 1 + part}, {Era: era + 1, At: part}, {Era: era + 1, At: part + s}} {
				x.passes(1, 0)
				if x.c.Date() != want || x.c.Now() != want.At || x.c.True() != want.At {
					t.Errorf("it tells %+v, not %v", tells(x.c), want)
				}
			}
		}
	}
}

// P16.2: the clock passes the end of an era ahead of true time, or behind it.
func TestPassEraWithError(t *testing.T) {
	for _, era := range []int{-1, 0} {
		x := pairOf(t, stamp.Date{Era: era, At: last - 3*s + 1}, 2*second, 0)
		for _, want := range []stamp.Date{{Era: era + 1}, {Era: era + 1, At: s}, {Era: era + 1, At: 2 * s}} {
			x.passes(1, 2*second)
			if x.c.Date() != want {
				t.Errorf("ahead it tells %v, not %v", x.c.Date(), want)
			}
		}
		x = pairOf(t, stamp.Date{Era: era, At: last - s + 1}, -2*second, 0)
		for _, want := range []stamp.Date{{Era: era, At: last - 2*s + 1}, {Era: era, At: last - s + 1}, {Era: era + 1}} {
			x.passes(1, -2*second)
			if x.c.Date() != want {
				t.Errorf("behind it tells %v, not %v", x.c.Date(), want)
			}
		}
	}
}
