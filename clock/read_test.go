package clock_test

import (
	"testing"

	"foliot/api"
	"foliot/stamp"
)

// P16.3: Date and Now lie the error behind true time, ahead of it below 0, across an era's end too; True stays.
func TestDate(t *testing.T) {
	for _, x := range []struct {
		at    api.Stamp
		error api.Span
		want  stamp.Date // in the eras behind the clock's
	}{
		{10 * s, 5, stamp.Date{At: 10*s + 5}}, {10 * s, -5, stamp.Date{At: 10*s - 5}}, {10 * s, 0, stamp.Date{At: 10 * s}},
		{5, -5, stamp.Date{}}, {5, -6, stamp.Date{Era: -1, At: last}}, {0, -1, stamp.Date{Era: -1, At: last}}, {0, 0, stamp.Date{}}, {0, 1, stamp.Date{At: 1}},
		{last, 0, stamp.Date{At: last}}, {last, -1, stamp.Date{At: last - 1}}, {last, 1, stamp.Date{Era: 1}}, {last - 5, 5, stamp.Date{At: last}}, {last - 5, 6, stamp.Date{Era: 1}},
		{0, most, stamp.Date{At: 1 << 62}}, {0, -most, stamp.Date{Era: -1, At: 3 << 62}}, {0, 1 - most, stamp.Date{Era: -1, At: 3<<62 + 1}},
		{1 << 62, -most, stamp.Date{}}, {1<<62 - 1, -most, stamp.Date{Era: -1, At: last}}, {1 << 63, most, stamp.Date{At: 3 << 62}}, {1 << 63, -most, stamp.Date{At: 1 << 62}},
		{3 << 62, most, stamp.Date{Era: 1}}, {3<<62 - 1, most, stamp.Date{At: last}}, {last, most, stamp.Date{Era: 1, At: 1<<62 - 1}}, {last, -most, stamp.Date{At: 3<<62 - 1}},
	} {
		for _, era := range []int{-1000, -1, 0, 1, 1000} {
			want := stamp.Date{Era: era + x.want.Era, At: x.want.At}
			c := pairOf(t, stamp.Date{Era: era, At: x.at}, x.error, 0).c
			if c.Date() != want || c.Now() != want.At || c.True() != x.at || c.Error() != x.error {
				t.Errorf("of the era %d, At %d, %d off it tells %+v", era, x.at, x.error, tells(c))
			}
		}
	}
}

// P16.3: Date follows the error, as it is put right back and forth over an era's end, and true time stays.
func TestDateFollows(t *testing.T) {
	x := pairOf(t, stamp.Date{Era: 4}, 0, 0)
	for _, want := range []struct {
		d  api.Span
		at stamp.Date
	}{
		{-1, stamp.Date{Era: 3, At: last}}, {1, stamp.Date{Era: 4}}, {most, stamp.Date{Era: 4, At: 1 << 62}}, {top, stamp.Date{Era: 4, At: 1 << 62}},
		{-most, stamp.Date{Era: 4}}, {-second, stamp.Date{Era: 3, At: last - s + 1}}, {lowest, stamp.Date{Era: 3, At: 3 << 62}},
	} {
		x.step(want.d)
		if x.c.Date() != want.at || x.c.Now() != want.at.At || x.c.True() != 0 {
			t.Errorf("behind a step of %d it tells %+v", want.d, tells(x.c))
		}
	}
}

// P16.4: what the clock reads later: with a rate and a frequency above and below 0, and together above the cut.
func TestAt(t *testing.T) {
	const now = 10*s + 5
	for _, x := range []struct {
		rate, freq api.Freq
		after      api.Span
		want       api.Stamp
	}{
		{0, 0, 0, now}, {0, 0, 1, now + 1}, {0, 0, -1, now - 1}, {0, 0, second, now + s}, {0, 0, -second, now - s}, {0, 0, -11 * second, last - s + 6},
		{65536, 0, second, now + s + 1}, {0, 65536, second, now + s + 1}, {65536, 65536, second, now + s + 2}, {65536, -65536, second, now + s}, {65536, 0, 0, now},
		{-65536, 0, second, now + s - 1}, {65536, 0, -second, now - s - 1}, {-65536, 0, -second, now - s + 1},
		{65535, 0, second, now + s}, {65535, 1, second, now + s + 1}, {-1, 0, second, now + s - 1}, {1, 0, 1, now + 1}, {-1, 0, 1, now}, {1, 0, -1, now - 2}, {-1, 0, -1, now - 1},
		{fastest, 0, second, now + s + 2147483}, {fastest, fastest, second, now + s + 4294967}, {-fastest, -fastest, second, now + s - 4294968}, {fastest, fastest, -second, now - s - 4294968},
		{fastest, -fastest, second, now + s}, {fastest, 1 - fastest, 1 << 48, now + 1<<48 + 1},
	} {
		c := pairOf(t, stamp.Date{At: 10 * s}, 5, x.rate)
		c.setFreq(x.freq)
		if got := c.c.At(x.after); got != x.want {
			t.Errorf("with the rate %d and the frequency %d At(%d) is %d, not %d", x.rate, x.freq, x.after, got, x.want)
		}
	}
}

// P16.4: After at its ends: what is added saturates once, and not ahead of the drift.
func TestAtSaturates(t *testing.T) {
	for _, x := range []struct {
		rate, freq api.Freq
		after      api.Span
		more       api.Span
	}{
		{0, 0, most, most}, {0, 0, most + 1, most}, {0, 0, top, most}, {0, 0, -most, -most}, {0, 0, -most - 1, -most}, {0, 0, lowest, -most},
		{65536, 0, most, most}, {65536, 0, most - 1, most}, {65536, 0, top, most}, {65536, 0, -most, -most}, {65536, 0, lowest, -most},
		{-65536, 0, most, most - 1<<30}, {-65536, 0, most + 1, most + 1 - 1<<30 - 1}, {-65536, 0, -most, 1<<30 - most}, {-65536, 0, -most - 1, 1<<30 - most - 1}, {-65536, 0, lowest, -most}, {-65536, 0, top, most},
		{-fastest, -fastest, top, most}, {-fastest, -fastest, lowest, -most}, {fastest, fastest, top, most}, {fastest, fastest, lowest, -most},
		// 2 * fastest * 2^62 / 2^48 = 281474976710 * 2^14
		{-fastest, -fastest, most, most - 281474976710<<14}, {-fastest, -fastest, -most, 281474976710<<14 - most},
		{-fastest, -fastest, most + 1<<40, most + 1<<40 - 281474976710<<14 - 1099511628}, {fastest, fastest, most - 1<<53, most - 1<<53 + 281474976710<<14 - 281474976710<<5},
	} {
		for _, begin := range []stamp.Date{{}, {At: 1 << 63}, {Era: 1000, At: last}} {
			c := pairOf(t, begin, 0, x.rate)
			c.setFreq(x.freq)
			if got := c.c.At(x.after); got != begin.At+api.Stamp(x.more) {
				t.Errorf("of %v with the rate %d and the frequency %d At(%d) is %d more, not %d", begin, x.rate, x.freq, x.after, api.Span(got-begin.At), x.more)
			}
		}
	}
}

// P16.4: At is from Now on, not from true time, and across an era's end.
func TestAtFromNow(t *testing.T) {
	for _, at := range stamps {
		for _, x := range spans {
			c := pairOf(t, stamp.Date{Era: -1, At: at}, x.given, 0).c
			for _, after := range []api.Span{0, 1, -1, second, most, -most} {
				if want := at + api.Stamp(x.counts) + api.Stamp(after); c.At(after) != want {
					t.Errorf("of At %d, %d off, At(%d) is %d, not %d", at, x.given, after, c.At(after), want)
				}
			}
		}
	}
}

// P16.4: the rest does not count, nor does a leap that is ordered.
func TestAtWithoutRestAndLeap(t *testing.T) {
	x := pairOf(t, dateAt(day-3), 0, 65535)
	x.passes(1, 0)
	x.setRate(1)
	x.orders(api.LeapInsert)
	if got := x.c.At(second); got != (day-1)*s {
		t.Errorf("At is %d", got)
	}
	if got := x.c.At(5 * second); got != (day+3)*s {
		t.Errorf("At is %d", got)
	}
	x.passes(1, 1)
}

// P16.3, P16.4: what is asked changes nothing: whatever comes behind it is what it would have been.
func TestAskingChangesNothing(t *testing.T) {
	r := drawer(1)
	for i := range 3 {
		x, plain := refusable(t)[i+1], refusable(t)[i+1]
		for range 300 {
			x.c.At(drawSpan(r))
			x.c.Now()
			x.c.Date()
			x.c.True()
			x.c.Error()
			x.c.Freq()
			x.c.Rate()
			x.c.Seconds()
			if x.c.Pass(1) != plain.c.Pass(1) || tells(x.c) != tells(plain.c) {
				t.Fatalf("it tells %+v, not %+v", tells(x.c), tells(plain.c))
			}
		}
	}
}

// P16.3, P16.6: Now is Date's At, and less True it is the error, as that is never half an era.
func TestNowLessTrue(t *testing.T) {
	r := drawer(2)
	for range 20000 {
		x := pairOf(t, stamp.Date{Era: r.IntN(2003) - 1001, At: api.Stamp(r.Uint64())}, drawSpan(r), drawRate(r))
		if x.c.Date().At != x.c.Now() || api.Span(x.c.Now()-x.c.True()) != x.c.Error() {
			t.Fatalf("it tells %+v", tells(x.c))
		}
	}
}
