package poll_test

import (
	"testing"

	"foliot/api"
	"foliot/poll"
)

// P11.1 to P11.4: the chapter's examples.
func TestExamples(t *testing.T) {
	x := pairOf(t, api.Assoc{MinPoll: 4, MaxPoll: 6}, 100, 35)
	x.is(told{next: 103, exponent: 4})
	x.sent(103, 5)
	x.is(told{next: 135, exponent: 5, gone: 1})
	x.heard(104)
	x.is(told{next: 135, exponent: 5, reach: 1})
	x.sent(135, 9)
	x.is(told{next: 199, exponent: 6, reach: 2})
	x = pairOf(t, api.Assoc{MinPoll: 4, MaxPoll: 6, Iburst: true}, 0, 0)
	for i, next := range []int{2, 4, 6, 8, 10, 26} {
		x.sent(2*i, 4)
		x.is(told{next: next, exponent: 4, gone: 1})
	}
	x.kissed(10, 5)
	x.is(told{next: 42, exponent: 5, gone: 1})
	x.kissed(10, 99)
	x.is(told{next: 74, exponent: 6, gone: 1})
}

// P11.1: every MinPoll beside every MaxPoll, at the limits and far beyond them.
func TestNewLimits(t *testing.T) {
	numbers := []int{least, -1, 0, 1, 2, 3, 4, 5, 6, 7, 8, 9, 10, 11, 12, 62, 63, 64, greatest}
	right := 0
	for _, low := range numbers {
		for _, high := range numbers {
			p, err := poll.New(api.Assoc{MinPoll: low, MaxPoll: high}, 7, 0)
			if low < 3 || high > 10 || low > high {
				if p != nil || err != api.ErrArg {
					t.Errorf("New of %d to %d: %v, %d", low, high, p, err)
				}
				continue
			}
			right++
			if err != api.OK || tells(p) != (told{next: 7, exponent: low}) {
				t.Errorf("New of %d to %d: %+v, %d", low, high, p, err)
			}
		}
	}
	if right != 36 {
		t.Errorf("%d are right", right)
	}
}

// P11.1: nothing else of an association counts, neither for whether it may be nor for what it tells.
func TestNewLooksAtNothingElse(t *testing.T) {
	for kind := -1; kind <= 10; kind++ {
		a := api.Assoc{Kind: kind, Addr: 1, Key: -1, MinPoll: 5, MaxPoll: 9, Prefer: true, TTL: -1, Pulse: true, Fudge: -1, Stratum: 99}
		x := pairOf(t, a, 10, 33)
		x.is(told{next: 11, exponent: 5})
		x.sent(11, 6)
		x.is(told{next: 75, exponent: 6, gone: 1})
		a.MinPoll = 2
		if p, err := poll.New(a, 10, 33); p != nil || err != api.ErrArg {
			t.Errorf("kind %d: %v, %d", kind, p, err)
		}
	}
}

// P11.1: the rest of draw, of each MinPoll: below 0, at 0, below 2^MinPoll, at it, and beyond.
func TestNewDraw(t *testing.T) {
	for low := 3; low <= 10; low++ {
		length := pow(low)
		for _, c := range []struct{ draw, rest int }{
			{least, 0}, {-length - 1, 0}, {-length, 0}, {-1, 0},
			{0, 0}, {1, 1}, {length - 1, length - 1},
			{length, 0}, {length + 1, 1}, {2*length - 1, length - 1}, {2 * length, 0},
			{1 << 40, 0}, {1<<40 + 5, 5}, {greatest, length - 1},
		} {
			for _, a := range kinds(low, 10) {
				pairOf(t, a, 1000, c.draw).is(told{next: 1000 + c.rest, exponent: low})
			}
		}
	}
}

// P11.1: draw is divided by MinPoll's power, not by MaxPoll's nor by that of api's least.
func TestNewDrawByMinPoll(t *testing.T) {
	pairOf(t, api.Assoc{MinPoll: 3, MaxPoll: 10}, 0, 1023).is(told{next: 7, exponent: 3})
	pairOf(t, api.Assoc{MinPoll: 10, MaxPoll: 10}, 0, 1023).is(told{next: 1023, exponent: 10})
}

// Times of the section 'Functions', as each row says: what is handed in, what it counts as.
var times = []struct{ now, counts int }{
	{least, 0}, {-1 << 40, 0}, {-latest, 0}, {-2, 0}, {-1, 0}, {0, 0}, {1, 1}, {2, 2},
	{latest - 1, latest - 1}, {latest, latest}, {latest + 1, latest}, {1 << 40, latest}, {greatest, latest},
}

// P11.1: New's time; draw is added behind its cut.
func TestNewTimes(t *testing.T) {
	for _, c := range times {
		pairOf(t, api.Assoc{MinPoll: 6, MaxPoll: 7}, c.now, 0).is(told{next: c.counts, exponent: 6})
		pairOf(t, api.Assoc{MinPoll: 6, MaxPoll: 7}, c.now, 63).is(told{next: c.counts + 63, exponent: 6})
	}
}

// P11.2: a second ahead of NEXT, at it, and behind it.
func TestDue(t *testing.T) {
	for _, next := range []int{1, 2, 100, latest - 1, latest} {
		p := pairOf(t, api.Assoc{MinPoll: 4, MaxPoll: 6}, next, 0).p
		for now, want := range map[int]bool{least: false, 0: false, next - 1: false, next: true, next + 1: true, latest: true, greatest: true} {
			if p.Due(now) != want {
				t.Errorf("Due(%d) is %v, though the next is at %d", now, !want, next)
			}
		}
	}
}

// P11.2: at 0 all times are due, those below 0 too, as they count as 0.
func TestDueAtNought(t *testing.T) {
	for _, now := range []int{least, -1, 0} {
		p := pairOf(t, api.Assoc{MinPoll: 4, MaxPoll: 6}, now, 0).p
		for _, c := range times {
			if !p.Due(c.now) {
				t.Errorf("Due(%d) is false", c.now)
			}
		}
	}
}

// P11.2: behind the last time that counts nothing is due any more.
func TestDueNoMore(t *testing.T) {
	p := pairOf(t, api.Assoc{MinPoll: 4, MaxPoll: 6}, greatest, 1).p
	for _, c := range append(times, struct{ now, counts int }{p.Next(), latest}) {
		if p.Due(c.now) {
			t.Errorf("Due(%d) is true", c.now)
		}
	}
}

// P11.1, P11.2: what is asked changes nothing, however often.
func TestAskedTwice(t *testing.T) {
	x := pairOf(t, api.Assoc{MinPoll: 4, MaxPoll: 6, Iburst: true}, 5, 3)
	for range 3 {
		x.check()
		x.is(told{next: 8, exponent: 4})
	}
	x.sent(8, 5)
	for range 3 {
		x.check()
		x.is(told{next: 10, exponent: 5, gone: 1})
	}
}
