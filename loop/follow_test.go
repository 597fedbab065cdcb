package loop_test

import (
	"math/rand/v2"
	"testing"

	"foliot/api"
	"foliot/fixed"
	"foliot/loop"
)

// drawConfig draws a configuration: an ordinary one, one with numbers at their edges, or any.
func drawConfig(r *rand.Rand) api.Config {
	switch r.IntN(3) {
	case 0:
		return config()
	case 1:
		return api.Config{Step: sizes[r.IntN(len(sizes))].given, Panic: sizes[r.IntN(len(sizes))].given, Stepout: stepouts[r.IntN(len(stepouts))].given}
	default:
		return api.Config{Step: drawSpan(r), Panic: drawSpan(r), Stepout: r.IntN(400) - 20}
	}
}

// drawOffset draws an offset, often one about the configuration's limits, but in calm times.
func drawOffset(r *rand.Rand, c api.Config, calm bool) api.Span {
	sign := api.Span(1 - 2*r.IntN(2))
	kind := r.IntN(8)
	if calm && r.IntN(60) > 0 {
		kind = 7
	}
	switch kind {
	case 0:
		return sign * (c.Step + api.Span(r.IntN(3)-1))
	case 1:
		return sign * (c.Panic + api.Span(r.IntN(3)-1))
	case 2:
		return drawOrdinary(r)
	case 3:
		return drawSpan(r)
	}
	if c.Step <= 1 {
		return sign * api.Span(r.IntN(2))
	}
	return sign * (api.Span(r.Int64N(int64(c.Step))) >> r.IntN(63))
}

// drawJitter draws one that is about a fourth of the offset, or any; in calm times most are large.
func drawJitter(r *rand.Rand, offset api.Span, calm bool) api.Span {
	if calm && r.IntN(10) > 0 {
		return most / api.Span(1+r.IntN(3))
	}
	if r.IntN(3) == 0 {
		return fixed.Abs(offset)/4 + api.Span(r.IntN(3)-1)
	}
	return drawSpan(r)
}

// drawGap draws how much later, or earlier, the next time is, often about the stepout, the poll's length or 2^11.
func drawGap(r *rand.Rand, stepout, poll int) int {
	near := r.IntN(3) - 1
	switch r.IntN(10) {
	case 0:
		return near
	case 1:
		return 1<<11 + near
	case 2, 3:
		return stepout + near
	case 4:
		return -r.IntN(1000)
	case 5:
		return r.IntN(latest)
	case 6:
		return r.IntN(5000)
	default:
		return 1<<poll + near
	}
}

// watch holds P15.4 against what is told from outside.
type watch struct {
	when           int // of the last spike
	offset, slewed api.Span
}

// updated looks at an Update's answer: what was told ahead of it, and behind.
func (w *watch) updated(t *testing.T, c api.Config, before, after told, offset api.Span, now, action int) {
	t.Helper()
	size := fixed.Abs(offset)
	step, panics := min(max(c.Step, 1), most), min(max(c.Panic, 1), most)
	if (action == api.ActPanic) != (size > panics) {
		t.Fatalf("of %d beside the panic limit %d it does %d", offset, panics, action)
	}
	if action == api.ActPanic && before != after {
		t.Fatalf("a panic makes %+v of %+v", after, before)
	}
	if action == api.ActStep && (size <= step || before.state == steady) {
		t.Fatalf("of %d in the state %d it is stepped", offset, before.state)
	}
	if action == api.ActStep && before.state == spike && max(nearest(now, 0, latest)-w.when, 0) < nearest(c.Stepout, 0, 1<<20) {
		t.Fatalf("behind a spike of %d it is stepped at %d", w.when, now)
	}
	if before.state != spike && after.state == spike {
		if before.state != steady || action != api.ActNone {
			t.Fatalf("a spike comes from the state %d, with %d", before.state, action)
		}
		w.when = nearest(now, 0, latest)
	}
	if after.rate > fastest || after.rate < -fastest {
		t.Fatalf("the rate is %d", after.rate)
	}
	if after.poll < 3 || after.poll > 10 || after.state < never || after.state > steady {
		t.Fatalf("it tells %+v", after)
	}
	switch action {
	case api.ActSlew:
		w.offset, w.slewed = offset, 0
	case api.ActStep:
		w.offset, w.slewed = 0, 0
	}
}

// ticked looks at a Tick's answer.
func (w *watch) ticked(t *testing.T, slewed api.Span) {
	t.Helper()
	w.slewed = fixed.Add(w.slewed, slewed)
	if slewed > 0 && w.offset <= 0 || slewed < 0 && w.offset >= 0 || fixed.Abs(w.slewed) > fixed.Abs(w.offset) {
		t.Fatalf("of %d %d is slewed, %d in all", w.offset, slewed, w.slewed)
	}
}

// walk is a loop that is called again and again.
type walk struct {
	*pair
	watch
	c   api.Config
	now int
}

func drawWalk(t *testing.T, r *rand.Rand) *walk {
	c := drawConfig(r)
	return &walk{pair: pairOf(t, c, api.Freq(drawSpan(r)), r.IntN(2) == 0), c: c, now: r.IntN(2000) >> r.IntN(11)}
}

// seen counts what came.
type seen struct {
	asked   map[asked]int
	actions map[int]int
	polls   map[int]int
}

// call draws one call, and holds it against all that is promised.
func (w *walk) call(r *rand.Rand, calm bool, s seen) {
	w.t.Helper()
	if r.IntN(3) == 0 {
		w.ticked(w.t, w.tick())
		return
	}
	w.now += drawGap(r, w.m.stepout, w.m.exponent)
	if w.now < 0 || w.now > latest {
		w.now = r.IntN(2000)
	}
	now := w.now
	if r.IntN(40) == 0 {
		now = edgeTimes[r.IntN(len(edgeTimes))].now
	}
	offset := drawOffset(r, w.c, calm)
	before, late := tells(w.l), w.m.since(now) >= w.m.stepout
	action, _ := w.update(offset, drawJitter(r, offset, calm), now)
	w.updated(w.t, w.c, before, tells(w.l), offset, now, action)
	s.actions[action]++
	s.polls[w.l.Poll()]++
	if action != api.ActPanic {
		s.asked[asked{before.state, w.m.step.Cmp(number(int64(fixed.Abs(offset)))) < 0, late}]++
	}
}

// P15.1 to P15.4: drawn calls of two loops side by side: each tells what its own calls ask.
func TestDrawn(t *testing.T) {
	r := drawer(7)
	s := seen{map[asked]int{}, map[int]int{}, map[int]int{}}
	for round := range 1500 {
		walks := [2]*walk{drawWalk(t, r), drawWalk(t, r)}
		calm := round % 3 * 100
		for n := range calm + 200 {
			walks[r.IntN(2)].call(r, n < calm, s)
		}
	}
	for is := range outcomes {
		if s.asked[is] < 10 {
			t.Errorf("%+v came %d times", is, s.asked[is])
		}
	}
	for action := range 4 {
		if s.actions[action] < 1000 {
			t.Errorf("%d was done %d times", action, s.actions[action])
		}
	}
	for poll := 3; poll <= 10; poll++ {
		if s.polls[poll] < 1000 {
			t.Errorf("the exponent was %d %d times", poll, s.polls[poll])
		}
	}
}

// P15.4: from STEADY a step comes behind a spike of STEPOUT seconds alone; a small offset in between ends it, and the next one is a spike again.
func TestStepNeedsASpike(t *testing.T) {
	for _, stepout := range []int{0, 1, 2, 300, 5000} {
		c := config()
		c.Stepout = stepout
		for _, gap := range []int{0, 1, 299, 5000} {
			x := pairOf(t, c, 5, true)
			x.acts(milli, milli, 0, api.ActSlew)
			for now := 0; now <= 10*gap; now += max(gap, 1) {
				x.acts(second, milli, now, api.ActNone)
				x.acts(milli, milli, now, api.ActSlew)
			}
		}
		x := pairOf(t, c, 5, true)
		x.acts(milli, milli, 0, api.ActSlew)
		x.acts(second, milli, 100, api.ActNone)
		for now := 100; now < 100+stepout; now += max(stepout/7, 1) {
			x.acts(second, milli, now, api.ActNone)
		}
		x.acts(second, milli, 100+stepout, api.ActStep)
		// Behind the step it needs another one.
		x.acts(second, milli, 200+stepout, api.ActNone)
	}
}

// P15.4: however fast the rate is driven, it stays within MaxFreq.
func TestRateStaysWithin(t *testing.T) {
	for _, sign := range []api.Span{1, -1} {
		for _, f := range []api.Freq{0, fastest, -fastest, greatest, least} {
			for _, gap := range []int{0, 1, 8, 2048, 2049, 100000} {
				x := pairOf(t, wide(), f, true)
				for i := range 40 {
					x.acts(sign*(most>>(i%20)), 1<<40, gap*i, api.ActSlew)
					if rate := x.l.Freq(); rate > fastest || rate < -fastest {
						t.Fatalf("the rate is %d", rate)
					}
				}
			}
		}
	}
}

// P15.4: of an offset that is driven in at any exponent what is slewed in all is no more, and has its sign, though the exponent changes ahead of it.
func TestSlewedInAll(t *testing.T) {
	r := drawer(8)
	for range 400 {
		l := loop.New(wide(), 0, true)
		for range r.IntN(60) {
			l.Update(drawSpan(r), drawSpan(r), r.IntN(latest))
		}
		offset := drawSpan(r)
		w := watch{offset: fixed.Add(offset, 0)}
		if action, _ := l.Update(offset, drawSpan(r), r.IntN(latest)); action != api.ActSlew {
			t.Fatalf("of %d it does %d", offset, action)
		}
		for range 300 {
			w.ticked(t, l.Tick())
		}
		if w.slewed+l.Left() != w.offset {
			t.Errorf("of %d %d is slewed, and %d left", offset, w.slewed, l.Left())
		}
	}
}
