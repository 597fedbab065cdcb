package loop_test

import (
	"testing"

	"foliot/api"
	"foliot/loop"
)

// P15.2, P15.3: the chapter's examples.
func TestExamples(t *testing.T) {
	x := pairOf(t, config(), 0, false)
	x.acts(2*second, milli, 10, api.ActStep)
	x.is(told{state: measuring, poll: 3})
	x = pairOf(t, config(), 0, false)
	x.acts(milli, milli, 10, api.ActNone)
	x.acts(2*milli, milli, 310, api.ActSlew)
	x.is(told{rate: 916259689, state: steady, poll: 3, left: 2 * milli})
	x = pairOf(t, config(), 5, true)
	x.acts(milli, milli, 10, api.ActSlew)
	if slewed := x.tick(); slewed != 131072 {
		t.Errorf("Tick is %d", slewed)
	}
	x.acts(2*second, milli, 20, api.ActNone)
	x.acts(2*second, milli, 100, api.ActNone)
	x.acts(2*second, milli, 320, api.ActStep)
	x.acts(1001*second, milli, 0, api.ActPanic)
	pairOf(t, config(), 0, false).acts(1001*second, milli, 0, api.ActPanic)
	pairOf(t, config(), 5, true).acts(1001*second, milli, 0, api.ActPanic)
}

// P15.2: each state with an offset at most STEP and one above it, before and behind STEPOUT: what it does, and where it goes. WHEN is 1000, where it is seen.
func TestStates(t *testing.T) {
	const (
		small = 549755813
		large = small + 1
	)
	for _, x := range []struct {
		state        int
		size         api.Span
		early, late  int // what it does before STEPOUT, and from then on
		goes, goesTo int
	}{
		{never, small, api.ActNone, api.ActNone, measuring, measuring},
		{never, large, api.ActStep, api.ActStep, measuring, measuring},
		{filed, small, api.ActSlew, api.ActSlew, steady, steady},
		{filed, large, api.ActStep, api.ActStep, steady, steady},
		{spike, small, api.ActSlew, api.ActSlew, steady, steady},
		{spike, large, api.ActNone, api.ActStep, spike, steady},
		{measuring, small, api.ActNone, api.ActSlew, measuring, steady},
		{measuring, large, api.ActNone, api.ActStep, measuring, steady},
		{steady, small, api.ActSlew, api.ActSlew, steady, steady},
		{steady, large, api.ActNone, api.ActNone, spike, spike},
	} {
		for _, now := range []int{least, -1, 0, 999, 1000, 1001, 1298, 1299, 1300, 1301, 5000, latest, greatest} {
			for _, offset := range []api.Span{x.size, -x.size} {
				action, goes := x.early, x.goes
				if now >= 1300 {
					action, goes = x.late, x.goesTo
				}
				p := brought(t, x.state, 1000)
				p.acts(offset, milli, now, action)
				if p.l.State() != goes {
					t.Errorf("of the state %d and %d at %d the next one is %d, not %d", x.state, offset, now, p.l.State(), goes)
				}
			}
		}
	}
}

// P15.2: what a rate is reckoned from: the gap of 3000 seconds tells BASE and WHEN behind each kind of call.
func TestBaseAndWhen(t *testing.T) {
	const thousand, gap = 1000, 3000
	rate := func(change api.Span) api.Freq {
		return api.Freq(saturated(over(times(number(int64(change)), pow(48)), times(number(8*gap), pow(32)))).Int64())
	}
	// FOLLOWED: BASE is the offset.
	x := brought(t, steady, thousand)
	x.acts(5*milli, 1, thousand+gap, api.ActSlew)
	x.is(told{rate: 5 + rate(4*milli), state: steady, poll: 3, left: 5 * milli})
	// A spike: BASE stays, WHEN is the spike's time.
	x = brought(t, steady, 10)
	x.acts(2*second, 1, thousand, api.ActNone)
	x.acts(5*milli, 1, thousand+gap, api.ActSlew)
	x.is(told{rate: 5 + rate(4*milli), state: steady, poll: 3, left: 5 * milli})
	// A second one changes neither.
	x = brought(t, steady, 10)
	x.acts(2*second, 1, thousand, api.ActNone)
	x.acts(3*second, 1, thousand+200, api.ActNone)
	x.acts(5*milli, 1, thousand+gap, api.ActSlew)
	x.is(told{rate: 5 + rate(4*milli), state: steady, poll: 3, left: 5 * milli})
	// STEPPED: BASE is 0, whatever was stepped, WHEN is now.
	x = brought(t, steady, 10)
	x.acts(2*second, 1, 20, api.ActNone)
	x.acts(3*second, 1, thousand, api.ActStep)
	x.acts(5*milli, 1, thousand+gap, api.ActSlew)
	x.is(told{rate: 5 + rate(5*milli), state: steady, poll: 3, left: 5 * milli})
	x = brought(t, filed, 0)
	x.acts(2*second, 1, thousand, api.ActStep)
	x.acts(5*milli, 1, thousand+gap, api.ActSlew)
	x.is(told{rate: 5 + rate(5*milli), state: steady, poll: 3, left: 5 * milli})
}

// P15.2: what is measured counts from the offset that NEVER took, or from the step, not from what came in between.
func TestMeasuringBase(t *testing.T) {
	for _, between := range []api.Span{0, 7 * milli, -2 * second, 9 * second} {
		x := pairOf(t, config(), 0, false)
		x.acts(milli, 1, 10, api.ActNone)
		for _, now := range []int{10, 11, 200, 309} {
			x.acts(between, 1, now, api.ActNone)
		}
		x.acts(2*milli, 1, 310, api.ActSlew)
		x.is(told{rate: 916259689, state: steady, poll: 3, left: 2 * milli})
		x = pairOf(t, config(), 0, false)
		x.acts(2*second, 1, 10, api.ActStep)
		for _, now := range []int{10, 11, 200, 309} {
			x.acts(between, 1, now, api.ActNone)
		}
		x.acts(milli, 1, 310, api.ActSlew)
		x.is(told{rate: 916259689, state: steady, poll: 3, left: milli})
	}
}

// P15.2: what is measured and stepped at once has that rate, and is reckoned from 0.
func TestMeasuredAndStepped(t *testing.T) {
	x := pairOf(t, config(), 0, false)
	x.acts(milli, 1, 10, api.ActNone)
	x.acts(second, 1, 10+latest/2, api.ActStep)
	// (second - milli) * 2^48 / 2^61
	x.is(told{rate: 523776, state: steady, poll: 3})
	x.acts(5*milli, 1, 3010+latest/2, api.ActSlew)
	// 5 * 2^22 * 2^48 / (24000 * 2^32)
	x.is(told{rate: 523776 + 57266230, state: steady, poll: 3, left: 5 * milli})
	// Back from there it is a spike that leads to a step, not the old measuring.
	x.acts(2*second, 1, 3010+latest/2, api.ActNone)
	x.is(told{rate: 523776 + 57266230, state: spike, poll: 3, left: 5 * milli})
}

// P15.2: a step leaves nothing to slew, the poll's exponent at its least and TALLY 0; a spike, and what is borne, leave all of that.
func TestWhatAStepLeaves(t *testing.T) {
	x := raised(t, config(), 9, 7)
	for range 4 {
		x.acts(milli, milli, 0, api.ActSlew)
	}
	was := tells(x.l)
	if was.poll != 7 || was.left != milli {
		t.Fatalf("it tells %+v", was)
	}
	x.acts(2*second, milli, 1000, api.ActNone)
	was.state = spike
	x.is(was)
	x.acts(3*second, milli, 1299, api.ActNone)
	x.is(was)
	// TALLY is 28: one more is too much.
	y := raised(t, config(), 9, 7)
	for range 4 {
		y.acts(milli, milli, 0, api.ActSlew)
	}
	y.acts(2*second, milli, 1000, api.ActNone)
	y.acts(0, milli, 1299, api.ActSlew)
	if y.l.Poll() != 8 {
		t.Errorf("behind a spike the exponent is %d", y.l.Poll())
	}
	x.acts(4*second, milli, 1300, api.ActStep)
	x.is(told{rate: was.rate, state: steady, poll: 3})
	// Eleven more are wanted now, as at the beginning.
	for i := range 11 {
		if x.l.Poll() != 3 {
			t.Errorf("behind a step and %d the exponent is %d", i, x.l.Poll())
		}
		x.acts(0, milli, 1300, api.ActSlew)
	}
	if x.l.Poll() != 4 {
		t.Errorf("behind a step and 11 the exponent is %d", x.l.Poll())
	}
}

// P15.2: what is stepped is the offset that was handed in, cut.
func TestStepTellsTheOffset(t *testing.T) {
	c := api.Config{Step: 5, Panic: most}
	for _, x := range []struct{ offset, want api.Span }{
		{6, 6}, {-6, -6}, {second, second}, {most - 1, most - 1}, {1 - most, 1 - most}, {most, most}, {-most, -most},
		{most + 1, most}, {-most - 1, -most}, {top, most}, {lowest + 1, -most}, {lowest, -most},
	} {
		for _, has := range []bool{false, true} {
			if action, step := pairOf(t, c, 1, has).update(x.offset, 1, 5); action != api.ActStep || step != x.want {
				t.Errorf("of %d Update is %d, %d", x.offset, action, step)
			}
		}
	}
}

// P15.2: an offset that is handed in beyond MaxSpan is slewed as one that is cut there.
func TestFollowedOffsetIsCut(t *testing.T) {
	for _, x := range []struct{ offset, want api.Span }{
		{most, most}, {most + 1, most}, {top, most}, {-most, -most}, {-most - 1, -most}, {lowest, -most},
	} {
		p := pairOf(t, wide(), 1, true)
		p.acts(x.offset, 1, 5, api.ActSlew)
		p.is(told{rate: 1, state: steady, poll: 3, left: x.want})
	}
}

// P15.2: times at their edges: below 0 they are 0, above 2^30 that.
func TestTimes(t *testing.T) {
	for _, first := range edgeTimes {
		for _, then := range edgeTimes {
			action := api.ActNone
			if then.counts-first.counts >= 300 {
				action = api.ActStep
			}
			x := brought(t, steady, 0)
			x.acts(2*second, 1, first.now, api.ActNone)
			x.acts(2*second, 1, then.now, action)
			x = pairOf(t, config(), 0, false)
			x.acts(milli, 1, first.now, api.ActNone)
			x.acts(2*second, 1, then.now, action)
			c := config()
			c.Stepout = 1
			action = api.ActNone
			if then.counts > first.counts {
				action = api.ActSlew
			}
			x = pairOf(t, c, 0, false)
			x.acts(milli, 1, first.now, api.ActNone)
			x.acts(milli, 1, then.now, action)
		}
	}
}

// P15.2: a spike's time goes back with now: STEPOUT counts from there.
func TestTimeGoesBack(t *testing.T) {
	x := brought(t, steady, 5000)
	x.acts(2*second, 1, 1000, api.ActNone)
	x.acts(2*second, 1, 1299, api.ActNone)
	x.acts(2*second, 1, 1300, api.ActStep)
	x = brought(t, spike, 5000)
	x.acts(2*second, 1, 1000, api.ActNone)
	x.acts(2*second, 1, 1300, api.ActNone)
	x.acts(2*second, 1, 5299, api.ActNone)
	x.acts(2*second, 1, 5300, api.ActStep)
}

// panics are offsets that config gives up at.
var panics = []api.Span{1000*second + 1, -1000*second - 1, 1001 * second, most, -most, top, lowest}

// P15.2: one gives up just above PANIC, in each state and at each time, and nothing at all changes by that: whatever comes behind it is what it would have been.
func TestPanicChangesNothing(t *testing.T) {
	for state := never; state <= steady; state++ {
		for _, offset := range panics {
			for _, now := range []int{least, 0, 1000, 1300, 5000, greatest} {
				for n := range 40 {
					x, plain := brought(t, state, 1000), brought(t, state, 1000)
					x.tick()
					plain.tick()
					r := drawer(uint64(n))
					x.acts(offset, 1<<40, now, api.ActPanic)
					x.is(tells(plain.l))
					for range 6 {
						nextOffset, nextJitter, later := drawOrdinary(r), drawSpan(r), r.IntN(8000)
						action, step := plain.update(nextOffset, nextJitter, later)
						if got, gotStep := x.update(nextOffset, nextJitter, later); got != action || gotStep != step || x.tick() != plain.tick() {
							t.Fatalf("behind a panic in the state %d it does %d, %d, not %d, %d", state, got, gotStep, action, step)
						}
						x.acts(offset, nextJitter, now, api.ActPanic)
						x.is(tells(plain.l))
					}
				}
			}
		}
		for _, sign := range []api.Span{1, -1} {
			for _, size := range []api.Span{1000*second - 1, 1000 * second} {
				if action, _ := brought(t, state, 1000).update(sign*size, 1, 5000); action == api.ActPanic {
					t.Errorf("of %d in the state %d it gives up", sign*size, state)
				}
			}
		}
	}
}

// P15.2: all short runs of a few offsets and gaps, with a rate of a file and without one.
func TestAllShort(t *testing.T) {
	offsets := []api.Span{milli, -3 * milli, 2 * second, -1001 * second}
	gaps := []int{0, 299, 300, 2049}
	kinds := len(offsets) * len(gaps)
	for _, has := range []bool{false, true} {
		for n := range kinds * kinds * kinds * kinds {
			x := &pair{t: t, l: loop.New(config(), 5, has), m: modelOf(config(), 5, has)}
			now := 0
			for range 4 {
				now += gaps[n%kinds%len(gaps)]
				x.update(offsets[n%kinds/len(gaps)], milli, now)
				n /= kinds
			}
			x.tick()
		}
	}
}
