package loop_test

import (
	"testing"

	"foliot/api"
)

// slewing is a loop that has so much to slew, at an exponent.
func slewing(t *testing.T, exponent int, offset api.Span) *pair {
	t.Helper()
	x := raised(t, wide(), 5, exponent)
	x.acts(offset, 0, 0, api.ActSlew)
	x.is(told{rate: x.l.Freq(), state: steady, poll: exponent, left: api.Span(saturated(number(int64(offset))).Int64())})
	return x
}

// P15.3: of nothing nothing is slewed, in each state.
func TestTickOfNothing(t *testing.T) {
	for _, x := range []*pair{
		pairOf(t, config(), 5, false), pairOf(t, config(), 5, true), brought(t, measuring, 7), slewing(t, 3, 0), slewing(t, 10, 0),
	} {
		was := tells(x.l)
		for range 20 {
			if slewed := x.tick(); slewed != 0 {
				t.Fatalf("of nothing %d is slewed", slewed)
			}
			x.is(was)
		}
	}
}

// P15.3: at each exponent, about 2^(p + 2) and its double, either way: it is divided down.
func TestTick(t *testing.T) {
	for exponent := 3; exponent <= 10; exponent++ {
		part := api.Span(1) << (exponent + 2)
		for _, x := range []struct{ left, slewed api.Span }{
			{0, 0}, {1, 0}, {2, 0}, {part - 1, 0}, {part, 1}, {part + 1, 1}, {2*part - 1, 1}, {2 * part, 2}, {2*part + 1, 2}, {1000 * part, 1000},
			{-1, -1}, {-2, -1}, {1 - part, -1}, {-part, -1}, {-part - 1, -2}, {-2 * part, -2}, {-2*part - 1, -3}, {-1000 * part, -1000},
			{most, most / part}, {-most, -most / part}, {most - 1, most/part - 1}, {1 - most, -most / part},
			{top, most / part}, {lowest, -most / part},
		} {
			p := slewing(t, exponent, x.left)
			was := tells(p.l)
			if slewed := p.tick(); slewed != x.slewed {
				t.Errorf("at the exponent %d of %d %d is slewed, not %d", exponent, x.left, slewed, x.slewed)
			}
			was.left -= x.slewed
			p.is(was)
		}
	}
}

// P15.3: until nothing is slewed any more: of what is above 0 less than 2^(p + 2) stays, of what is below 0 nothing.
func TestTickToTheEnd(t *testing.T) {
	for exponent := 3; exponent <= 10; exponent++ {
		part := api.Span(1) << (exponent + 2)
		for _, offset := range []api.Span{1, part - 1, part, part + 1, 5 * part, second, most, -1, 1 - part, -part, -part - 1, -5 * part, -second, -most} {
			p := slewing(t, exponent, offset)
			all := api.Span(0)
			for p.l.Left() < 0 || p.l.Left() >= part {
				slewed := p.tick()
				if slewed == 0 || slewed < 0 != (offset < 0) {
					t.Fatalf("at the exponent %d of %d, all in all, %d is slewed with %d left", exponent, offset, slewed, p.l.Left())
				}
				all += slewed
			}
			if p.tick() != 0 || p.tick() != 0 || all+p.l.Left() != offset {
				t.Errorf("at the exponent %d of %d %d is slewed in all, and %d left", exponent, offset, all, p.l.Left())
			}
			if offset < 0 && p.l.Left() != 0 || offset > 0 && (p.l.Left() != min(offset, p.l.Left()) || p.l.Left() >= part) {
				t.Errorf("at the exponent %d of %d %d is left at the end", exponent, offset, p.l.Left())
			}
		}
	}
}

// P15.2, P15.3: what is followed next takes the place of what was left; a step leaves nothing, all else leaves it.
func TestLeft(t *testing.T) {
	x := brought(t, steady, 1000)
	x.tick()
	left := milli - milli/32
	for _, offset := range []api.Span{2 * second, -2 * second, 1001 * second} {
		x.update(offset, 1, 1001)
		if x.l.Left() != left {
			t.Errorf("behind %d %d is left", offset, x.l.Left())
		}
	}
	// A spike does not keep it from being slewed.
	if slewed := x.tick(); slewed != left/32 {
		t.Errorf("in a spike %d is slewed", slewed)
	}
	x.acts(-5, 1, 1002, api.ActSlew)
	if x.l.Left() != -5 {
		t.Errorf("%d is left", x.l.Left())
	}
	x.acts(0, 1, 1003, api.ActSlew)
	if x.l.Left() != 0 {
		t.Errorf("%d is left", x.l.Left())
	}
	x.acts(milli, 1, 1004, api.ActSlew)
	x.acts(2*second, 1, 1005, api.ActNone)
	x.acts(2*second, 1, 1305, api.ActStep)
	if x.l.Left() != 0 || x.tick() != 0 {
		t.Errorf("behind a step %d is left", x.l.Left())
	}
}

// P15.3: Ticks change nothing but what is left: whatever comes behind them is what it would have been.
func TestTicksChangeNothingElse(t *testing.T) {
	for state := never; state <= steady; state++ {
		for n := range 200 {
			r := drawer(uint64(n))
			x, plain := brought(t, state, 1000), brought(t, state, 1000)
			for range 10 {
				for range r.IntN(20) {
					x.tick()
				}
				got, want := tells(x.l), tells(plain.l)
				if got.left = want.left; got != want {
					t.Fatalf("behind Ticks it tells %+v, not %+v", got, want)
				}
				offset, jitter, now := drawOrdinary(r), drawSpan(r), r.IntN(8000)
				action, step := plain.update(offset, jitter, now)
				x.acts(offset, jitter, now, action)
				if action == api.ActStep || action == api.ActSlew {
					x.is(tells(plain.l))
				}
				if action == api.ActStep && step != offset {
					t.Fatalf("%d is stepped as %d", offset, step)
				}
			}
		}
	}
}
