package loop_test

import (
	"testing"

	"foliot/api"
	"foliot/loop"
)

// rates are what is handed in as a rate beside what it counts as.
var rates = []struct{ f, counts api.Freq }{
	{least, -fastest}, {-1 << 48, -fastest}, {-fastest - 1, -fastest}, {-fastest, -fastest}, {1 - fastest, 1 - fastest},
	{-1, -1}, {0, 0}, {1, 1}, {5, 5},
	{fastest - 1, fastest - 1}, {fastest, fastest}, {fastest + 1, fastest}, {1 << 48, fastest}, {greatest, fastest},
}

// sizes are what is handed in as Step or Panic beside what it counts as.
var sizes = []struct{ given, counts api.Span }{
	{lowest, 1}, {-most - 1, 1}, {-most, 1}, {-second, 1}, {-1, 1}, {0, 1}, {1, 1}, {2, 2}, {549755813, 549755813},
	{most - 1, most - 1}, {most, most}, {most + 1, most}, {top, most},
}

// stepouts are what is handed in as Stepout beside what it counts as.
var stepouts = []struct{ given, counts int }{
	{least, 0}, {-1 << 40, 0}, {-1, 0}, {0, 0}, {1, 1}, {300, 300},
	{1<<20 - 1, 1<<20 - 1}, {1 << 20, 1 << 20}, {1<<20 + 1, 1 << 20}, {1 << 40, 1 << 20}, {greatest, 1 << 20},
}

// P15.1: rate and state, with has and without; the rest is nought, whatever the configuration says.
func TestNew(t *testing.T) {
	for _, x := range rates {
		for _, c := range []api.Config{{}, config(), wide(), {Step: -1, Panic: lowest, Stepout: greatest}} {
			pairOf(t, c, x.f, true).is(told{rate: x.counts, state: filed, poll: 3})
			pairOf(t, c, x.f, false).is(told{state: never, poll: 3})
		}
	}
}

// P15.1: what the rate is cut to goes on: it is no mere matter of telling.
func TestNewRateGoesOn(t *testing.T) {
	for _, x := range rates {
		p := pairOf(t, wide(), x.f, true)
		p.acts(1, 1, 0, api.ActSlew)
		// Of 1 at the exponent 3 within a second the rate is 4 more, of -1 4 less.
		p.acts(-1, 1, 0, api.ActSlew)
		p.is(told{rate: max(x.counts-4, -fastest), state: steady, poll: 3, left: -1})
		p.acts(1, 1, 0, api.ActSlew)
		p.is(told{rate: max(x.counts-4, -fastest) + 4, state: steady, poll: 3, left: 1})
	}
}

// P15.1: BASE and WHEN are 0 at first, which nobody sees: whatever comes first is held against neither of them, and sets both.
func TestNewFirst(t *testing.T) {
	for _, e := range edgeTimes {
		for _, offset := range []api.Span{-milli, -1, 0, 1, milli} {
			x := pairOf(t, config(), 5, true)
			x.acts(offset, 1<<40, e.now, api.ActSlew)
			x.is(told{rate: 5, state: steady, poll: 3, left: offset})
			x = pairOf(t, config(), 5, false)
			x.acts(offset, 1<<40, e.now, api.ActNone)
			x.is(told{state: measuring, poll: 3})
		}
		for _, offset := range []api.Span{-2 * second, 2 * second} {
			x := pairOf(t, config(), 5, true)
			x.acts(offset, 1, e.now, api.ActStep)
			x.is(told{rate: 5, state: steady, poll: 3})
			x = pairOf(t, config(), 5, false)
			x.acts(offset, 1, e.now, api.ActStep)
			x.is(told{state: measuring, poll: 3})
		}
	}
}

// P15.1: Step below 1, 1, MaxSpan and above it, held against offsets just below, at and just above it, either way.
func TestStepLimit(t *testing.T) {
	for _, x := range sizes {
		c := api.Config{Step: x.given, Panic: most}
		for _, sign := range []api.Span{1, -1} {
			for _, size := range []api.Span{0, 1, x.counts - 1, x.counts, x.counts + 1, most, most + 1, top} {
				filedAction, neverAction := api.ActSlew, api.ActNone
				if min(size, most) > x.counts {
					filedAction, neverAction = api.ActStep, api.ActStep
				}
				pairOf(t, c, 7, true).acts(sign*size, 1, 9, filedAction)
				pairOf(t, c, 7, false).acts(sign*size, 1, 9, neverAction)
			}
		}
	}
}

// P15.1: Panic below 1, 1, MaxSpan and above it, likewise.
func TestPanicLimit(t *testing.T) {
	for _, x := range sizes {
		for _, step := range []api.Span{0, 1, x.counts, most} {
			c := api.Config{Step: step, Panic: x.given}
			for _, sign := range []api.Span{1, -1} {
				for _, size := range []api.Span{0, 1, x.counts - 1, x.counts, x.counts + 1, most, most + 1, top} {
					action := api.ActSlew
					if min(size, most) > x.counts {
						action = api.ActPanic
					} else if min(size, most) > max(step, 1) {
						action = api.ActStep
					}
					pairOf(t, c, 7, true).acts(sign*size, 1, 9, action)
				}
			}
		}
	}
}

// P15.1, P15.4: where Panic is at most Step nothing is ever stepped: an offset above Panic is one to give up at, though it is at most Step.
func TestPanicBelowStep(t *testing.T) {
	for _, panics := range []api.Span{0, 1, second - 1, second} {
		c := api.Config{Step: second, Panic: panics, Stepout: 300}
		for _, has := range []bool{false, true} {
			x := pairOf(t, c, 7, has)
			for now := range 20 {
				for _, size := range []api.Span{max(panics, 1) + 1, second + 1, 2 * second, top} {
					x.acts(size, 1, 100*now, api.ActPanic)
					x.acts(-size, 1, 100*now, api.ActPanic)
				}
				if action, _ := x.update(max(panics, 1), 1, 100*now); action != api.ActNone && action != api.ActSlew {
					t.Errorf("of Panic's own size it does %d", action)
				}
			}
		}
	}
}

// P15.1: Stepout below 0, 0, 2^20 and above it: how long a spike is borne, and how long the rate is measured.
func TestStepoutLimit(t *testing.T) {
	for _, x := range stepouts {
		c := config()
		c.Stepout = x.given
		for _, now := range []int{0, 1000, latest - 1<<20} {
			for _, gap := range []int{-1, 0, 1, x.counts - 1, x.counts, x.counts + 1} {
				action := api.ActNone
				if max(gap, 0) >= x.counts {
					action = api.ActStep
				}
				p := pairOf(t, c, 7, true)
				p.acts(milli, 1, now, api.ActSlew)
				p.acts(2*second, 1, now, api.ActNone)
				p.acts(2*second, 1, now+gap, action)
				p = pairOf(t, c, 7, false)
				p.acts(milli, 1, now, api.ActNone)
				p.acts(2*second, 1, now+gap, action)
				if action == api.ActStep {
					action = api.ActSlew
				}
				p = pairOf(t, c, 7, false)
				p.acts(milli, 1, now, api.ActNone)
				p.acts(milli, 1, now+gap, action)
			}
		}
	}
}

// P15.1: nothing else of a configuration counts.
func TestNewLooksAtNothingElse(t *testing.T) {
	c := config()
	c.Assocs = []api.Assoc{{Kind: api.KindServer, Addr: 1, MinPoll: 6, MaxPoll: 7}}
	c.Rules, c.Orphan, c.Average, c.Minimum = []api.Rule{{Flags: 255}}, 5, 9, 9
	c.Drift, c.Stats, c.Listen = "drift", []string{"loop"}, true
	other, plain := loop.New(c, 5, true), loop.New(config(), 5, true)
	r := drawer(1)
	for range 2000 {
		offset, jitter, now := drawSpan(r)>>20, drawSpan(r), r.IntN(latest)
		action, step := other.Update(offset, jitter, now)
		wantAction, wantStep := plain.Update(offset, jitter, now)
		if action != wantAction || step != wantStep || other.Tick() != plain.Tick() || tells(other) != tells(plain) {
			t.Fatalf("it tells %+v, not %+v", tells(other), tells(plain))
		}
	}
}

// R3: two loops of one configuration know nothing of one another.
func TestTwoLoops(t *testing.T) {
	one, other := pairOf(t, config(), 5, true), pairOf(t, config(), 5, true)
	for i := range 50 {
		one.update(milli*api.Span(1+i%5), 1, 20*i)
		one.tick()
		other.check()
		other.is(told{rate: 5, state: filed, poll: 3})
	}
	other.acts(2*second, 1, 5, api.ActStep)
	one.check()
}
