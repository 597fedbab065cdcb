package clock_test

import (
	"testing"

	"foliot/api"
	"foliot/stamp"
)

// leaps are what may be ordered beside what it makes of the error.
var leaps = []struct {
	leap int
	more api.Span
}{
	{api.LeapNone, 0}, {api.LeapInsert, -second}, {api.LeapDelete, second},
}

// P16.2: a leap comes with the second that ends the clock's day, whenever in that day it was ordered; then none is ordered any more.
func TestLeap(t *testing.T) {
	for _, x := range leaps {
		for _, ahead := range []int{1, 2, 3, 60, 86399, 86400} {
			c := clockAt(t, day-ahead)
			c.orders(x.leap)
			if ahead > 1 {
				c.passes(ahead-1, 0)
			}
			c.passes(1, x.more)
			c.passes(1, x.more)
			c.passes(2*day, x.more)
		}
	}
}

// P16.2: what is ordered behind a day's end comes at the next one.
func TestLeapBehindTheEnd(t *testing.T) {
	for _, x := range leaps {
		for behind := range 3 {
			c := clockAt(t, day-1)
			c.passes(1+behind, 0)
			c.orders(x.leap)
			c.passes(day-1-behind, 0)
			c.passes(1, x.more)
		}
	}
}

// P16.2: in one call of more seconds it comes just as second by second.
func TestLeapWithinACall(t *testing.T) {
	for _, x := range leaps {
		c := pairOf(t, dateAt(day-100), 0, 65536)
		c.orders(x.leap)
		c.passes(3*day, x.more+3*day)
	}
}

// P16.2: the clock's day is its own, not that of true time: it may be more than a day ahead of that, or behind it.
func TestLeapByTheClocksDay(t *testing.T) {
	for _, x := range leaps {
		for _, error := range []int{-1 << 30, -300000, -2*day - 5, -day - 5, -day, -day + 5, -5, -1, 1, 5, day - 5, day, day + 5, 2*day + 5, 300000, 1 << 30} {
			for _, end := range []int{-40 * day, -day, 0, day, 40 * day, 60000 * day} {
				off := api.Span(error) * second
				c := pairOf(t, dateAt(end-3-error), off, 0)
				c.orders(x.leap)
				c.passes(2, off)
				c.passes(1, saturate(off+x.more))
				c.passes(4, saturate(off+x.more))
			}
		}
	}
}

func saturate(d api.Span) api.Span { return min(max(d, -most), most) }

// P16.2: true time's day ends, the clock's does not: no leap comes.
func TestNoLeapByTrueTime(t *testing.T) {
	for _, error := range []int{-day / 2, -10, 10, day / 2} {
		off := api.Span(error) * second
		c := pairOf(t, dateAt(day-5), off, 0)
		c.orders(api.LeapInsert)
		c.passes(9, off)
		if c.m.leap != api.LeapInsert {
			t.Errorf("%d seconds off the leap came", error)
		}
	}
}

// P16.2, Words: a day is divided down, also ahead of the era 0 and in other eras, at each second around its end.
func TestDayOfEras(t *testing.T) {
	for _, end := range []int{-1000 << 32 / day * day, -49711 * day, -49710 * day, -2 * day, -day, 0, day, 2 * day, 49710 * day, 49711 * day, 1000 << 32 / day * day, 1001 << 32 / day * day} {
		for from := end - 3; from < end; from++ {
			c := clockAt(t, from)
			c.orders(api.LeapInsert)
			if from < end-1 {
				c.passes(end-1-from, 0)
			}
			c.passes(1, -second)
		}
		for from := end; from < end+3; from++ {
			c := clockAt(t, from)
			c.orders(api.LeapInsert)
			c.passes(5, 0)
			// It is still ordered: nearer to the next end it comes there.
			c.step(api.Span(end+day-1-from-5) * second)
			error := c.c.Error()
			c.passes(1, error-second)
		}
	}
}

// P16.2: where an era begins no day ends, but with the era 0, and each 675th one from there.
func TestLeapAtAnErasEnd(t *testing.T) {
	for _, x := range []struct {
		era  int
		more api.Span
	}{
		{-999, 0}, {-675, second}, {-1, 0}, {0, second}, {1, 0}, {2, 0}, {675, second}, {1000, 0}, {1001, 0},
	} {
		c := clockAt(t, x.era<<32-5)
		c.orders(api.LeapDelete)
		c.passes(10, x.more)
	}
}

// P16.2: the clock's day is that of its date beyond the eras too that a clock may begin in.
func TestLeapBeyondTheEras(t *testing.T) {
	for _, x := range []struct {
		begin stamp.Date
		error api.Span
	}{
		{stamp.Date{Era: -1000}, -second}, {stamp.Date{Era: -1000}, -100000 * second}, {stamp.Date{Era: -1000}, -most},
		{stamp.Date{Era: 1000, At: last}, second}, {stamp.Date{Era: 1000, At: last}, 100000 * second}, {stamp.Date{Era: 1000, At: last}, most},
	} {
		c := pairOf(t, x.begin, x.error, 0)
		before := int(over(c.m.date(), aSecond).Int64())
		ahead := day - ((before%day)+day)%day
		c.orders(api.LeapDelete)
		c.passes(ahead-1, x.error)
		c.passes(1, saturate(x.error+second))
		c.step(-second)
		c.passes(10, saturate(x.error+second)-second)
	}
}

// P16.2: a part of a second decides whether a second ends the day.
func TestLeapByParts(t *testing.T) {
	for _, x := range []struct {
		error api.Span // at a second ahead of the day's end
		rate  api.Freq
		want  api.Span // a second later
	}{
		{0, 0, -second}, {-1, 0, -1}, {1, 0, 1 - second}, {second - 1, 0, -1}, {second, 0, second}, {-second, 0, -second},
		// What the second itself makes of the error counts, what it was ahead of it too.
		{-1, 65535, -1}, {-1, 65536, -second}, {0, -1, -1}, {1, -1, -second}, {1, -65536, -second}, {1, -65537, -1},
		{second - 1, 65536, 0}, {second, -65536, second - 1}, {second - 1, -fastest, -2147484 - 1}, {0, fastest, 2147483 - second},
		{-2147483, fastest, -second}, {-2147484, fastest, -1},
	} {
		c := pairOf(t, dateAt(day-1), x.error, x.rate)
		c.orders(api.LeapInsert)
		c.passes(1, x.want)
	}
}

// P16.2: what counts is the day ahead of the second, not that at which the leap was ordered: a step into the next day, or back, brings no leap by itself.
func TestStepOverADaysEnd(t *testing.T) {
	for _, x := range leaps {
		c := clockAt(t, day-10)
		c.orders(x.leap)
		c.step(20 * second)
		c.passes(1, 20*second)
		c.passes(day-12, 20*second)
		c.passes(1, 20*second+x.more)
		c = clockAt(t, day+5)
		c.orders(x.leap)
		c.step(-10 * second)
		c.passes(4, -10*second)
		c.passes(1, -10*second+x.more)
		c = clockAt(t, day-10)
		c.orders(x.leap)
		c.slew(10 * second)
		c.slew(-1)
		c.passes(1, 10*second-1+x.more)
		c = clockAt(t, 10*day-1)
		c.orders(x.leap)
		c.step(-2 * day * second)
		c.passes(1, -2*day*second+x.more)
	}
}

// P16.2: an inserted second takes the clock back into the day that ended; that day ends once more, with another leap just if one is ordered again.
func TestLeapBackIntoTheDay(t *testing.T) {
	c := clockAt(t, day-1)
	c.orders(api.LeapInsert)
	c.passes(1, -second)
	if c.c.Date() != dateAt(day-1) {
		t.Errorf("behind the leap it is %v", c.c.Date())
	}
	c.passes(1, -second)
	for _, x := range leaps {
		c := clockAt(t, day-1)
		c.orders(api.LeapInsert)
		c.passes(1, -second)
		c.orders(x.leap)
		c.passes(1, -second+x.more)
		c.passes(1, -second+x.more)
	}
	c = clockAt(t, day-1)
	for n := range 20 {
		c.orders(api.LeapInsert)
		c.passes(1, -api.Span(n+1)*second)
	}
}

// P16.2: a deleted second takes the clock forward, and no other leap with it till the next day's end.
func TestLeapForward(t *testing.T) {
	for _, x := range leaps {
		c := clockAt(t, day-1)
		c.orders(api.LeapDelete)
		c.passes(1, second)
		if c.c.Date() != dateAt(day+1) {
			t.Errorf("behind the leap it is %v", c.c.Date())
		}
		c.orders(x.leap)
		c.passes(day-2, second)
		c.passes(1, second+x.more)
	}
}

// P16.2: a leap saturates the error as all else does, and is done by that.
func TestLeapSaturates(t *testing.T) {
	for _, x := range []struct {
		error api.Span
		leap  int
		want  api.Span
	}{
		{most, api.LeapDelete, most}, {most - 1, api.LeapDelete, most}, {most - second, api.LeapDelete, most}, {most - second - 1, api.LeapDelete, most - 1},
		{most, api.LeapInsert, most - second},
		{-most, api.LeapInsert, -most}, {1 - most, api.LeapInsert, -most}, {second - most, api.LeapInsert, -most}, {second - most + 1, api.LeapInsert, 1 - most},
		{-most, api.LeapDelete, second - most},
	} {
		// The clock's date, not true time's, is half a second ahead of a day's end.
		begin := dateOf(plus(moment(dateAt(day-1)), number(-int64(x.error)+int64(second/2))))
		c := pairOf(t, begin, x.error, 0)
		c.orders(x.leap)
		c.passes(1, x.want)
		c.step(-c.c.Error())
		c.passes(day+1, 0)
	}
}

// P16.5: an order is taken back, or changed, by the next one; one that may not be changes nothing.
func TestSetLeap(t *testing.T) {
	for _, first := range leaps {
		for _, then := range leaps {
			c := clockAt(t, day-3)
			c.orders(first.leap)
			c.passes(1, 0)
			c.orders(then.leap)
			c.passes(2, then.more)
			c.passes(day+5, then.more)
		}
		for _, leap := range []int{least, -2, -1, api.LeapAlarm, 4, 5, 1 << 32, 1<<32 + 1, 1<<32 + 2, greatest} {
			c := clockAt(t, day-3)
			for range 2 {
				if c.setLeap(leap) {
					t.Errorf("SetLeap(%d) is true", leap)
				}
				c.orders(first.leap)
			}
			if c.setLeap(leap) {
				t.Errorf("SetLeap(%d) is true", leap)
			}
			c.passes(3, first.more)
		}
	}
}

// P16.2: a leap leaves true time, rates and the rest.
func TestLeapLeavesTheRest(t *testing.T) {
	for _, x := range leaps {
		c := pairOf(t, stamp.Date{At: (day - 1) * s}, 0, 40000)
		c.setFreq(30000)
		c.orders(x.leap)
		c.passes(1, 1+x.more)
		if c.c.True() != day*s || c.c.Rate() != 40000 || c.c.Freq() != 30000 {
			t.Errorf("behind the leap %d it tells %+v", x.leap, tells(c.c))
		}
		c.rests(70000 - 65536)
	}
}
