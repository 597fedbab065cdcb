package poll_test

import (
	"testing"

	"foliot/api"
)

// P11.4: Heard sets the lowest bit of all that REACH may be; twice is once. Neither NEXT nor the exponent changes, at any time.
func TestHeard(t *testing.T) {
	for reach := range 256 {
		x := pairOf(t, api.Assoc{MinPoll: 4, MaxPoll: 6}, 0, 0)
		for bit := 7; bit >= 0; bit-- {
			x.sent(70, 5)
			if reach>>bit&1 == 1 {
				x.heard(0)
			}
		}
		for _, c := range times {
			x.heard(c.now)
			x.is(told{next: 102, exponent: 5, reach: reach | 1})
		}
	}
}

// P11.4: ahead of all questions it is heard as well.
func TestHeardFirst(t *testing.T) {
	x := pairOf(t, api.Assoc{MinPoll: 4, MaxPoll: 6, Iburst: true}, 5, 1)
	x.heard(0)
	x.is(told{next: 6, exponent: 4, reach: 1})
	x.sent(6, 4)
	x.is(told{next: 22, exponent: 4, reach: 2})
}

// P11.4: GONE is 0 behind it, whatever it was; it counts from the eighth unanswered round on, from 1.
func TestHeardEndsGone(t *testing.T) {
	for _, gone := range []int{1, 12, 13, 50, 99, 100, 120} {
		x := pairOf(t, api.Assoc{MinPoll: 4, MaxPoll: 6}, 0, 0)
		x.unheard(gone, 4)
		if x.p.Gone() != min(gone, 100) {
			t.Fatalf("Gone is %d, not %d", x.p.Gone(), gone)
		}
		next, exponent := x.p.Next(), x.p.Exponent()
		x.heard(9)
		x.is(told{next: next, exponent: exponent, reach: 1})
		x.unheard(7, 4)
		x.is(told{next: 16, exponent: 4, reach: 128})
		x.unheard(1, 4)
		x.is(told{next: 16, exponent: 4, gone: 1})
	}
}

// P11.4: a kiss with each exponent, below, at and above the one that there is, above MaxPoll, and below 0.
func TestKissedExponent(t *testing.T) {
	for _, c := range []struct{ kiss, want int }{
		{least, 6}, {-1, 6}, {0, 6}, {3, 6}, {4, 6}, {5, 6}, {6, 6}, {7, 7}, {8, 8}, {9, 8}, {10, 8}, {11, 8}, {63, 8}, {64, 8}, {99, 8}, {1 << 40, 8}, {greatest, 8},
	} {
		x := pairOf(t, api.Assoc{MinPoll: 4, MaxPoll: 8}, 0, 0)
		x.sent(0, 6)
		x.kissed(100, c.kiss)
		x.is(told{next: 100 + pow(c.want), exponent: c.want, gone: 1})
	}
}

// P11.4: every kiss of every exponent that there may be, between all limits.
func TestKissedAll(t *testing.T) {
	for low := 3; low <= 10; low++ {
		for high := low; high <= 10; high++ {
			for system := low; system <= high; system++ {
				for kiss := -2; kiss <= 13; kiss++ {
					x := pairOf(t, api.Assoc{MinPoll: low, MaxPoll: high}, 0, 0)
					x.sent(0, system)
					x.kissed(3, kiss)
					x.sent(5, 0)
					x.kissed(3, 0)
				}
			}
		}
	}
}

// P11.4: ahead of all questions a kiss puts the first one off.
func TestKissedFirst(t *testing.T) {
	x := pairOf(t, api.Assoc{MinPoll: 4, MaxPoll: 6}, 100, 3)
	x.kissed(50, 2)
	x.is(told{next: 66, exponent: 4})
	x.kissed(50, 5)
	x.is(told{next: 82, exponent: 5})
}

// P11.4: Kissed's time.
func TestKissedTimes(t *testing.T) {
	for _, c := range times {
		x := pairOf(t, api.Assoc{MinPoll: 4, MaxPoll: 8}, 77, 5)
		x.kissed(c.now, 7)
		x.is(told{next: c.counts + 128, exponent: 7})
	}
}

// P11.4: MinPoll is the exponent from then on: no later question is asked more often, whatever the system's is; it is none the higher for what came between.
func TestKissedIsKept(t *testing.T) {
	x := pairOf(t, api.Assoc{MinPoll: 3, MaxPoll: 10}, 0, 0)
	x.kissed(0, 6)
	for _, c := range []struct{ system, want int }{{3, 6}, {5, 6}, {6, 6}, {7, 7}, {10, 10}, {least, 6}, {greatest, 10}, {4, 6}} {
		x.sent(0, c.system)
		x.heard(0)
		if x.p.Exponent() != c.want || x.p.Next() != pow(c.want) {
			t.Fatalf("system %d: %+v", c.system, tells(x.p))
		}
	}
}

// P11.4: a kiss with less than the exponent that there is keeps that one, the system's or a raised one, as MinPoll.
func TestKissedKeepsWhatThereIs(t *testing.T) {
	x := pairOf(t, api.Assoc{MinPoll: 3, MaxPoll: 10}, 0, 0)
	x.sent(0, 8)
	x.kissed(0, 3)
	x.sent(0, 3)
	x.is(told{next: 256, exponent: 8, gone: 2})
	x = pairOf(t, api.Assoc{MinPoll: 3, MaxPoll: 10}, 0, 0)
	x.unheard(15, 3)
	x.kissed(0, 0)
	x.heard(0)
	x.sent(0, 3)
	x.is(told{next: 64, exponent: 6, reach: 2})
}

// P11.4: kisses add to each other, and none of them takes one back.
func TestKissedAgain(t *testing.T) {
	x := pairOf(t, api.Assoc{MinPoll: 3, MaxPoll: 9}, 0, 0)
	for _, c := range []struct{ kiss, want int }{{5, 5}, {4, 5}, {7, 7}, {-1, 7}, {6, 7}, {8, 8}, {20, 9}, {3, 9}} {
		x.kissed(0, c.kiss)
		x.is(told{next: pow(c.want), exponent: c.want, gone: x.p.Gone()})
		x.sent(0, 0)
		if x.p.Exponent() != c.want {
			t.Fatalf("behind the kiss %d: %+v", c.kiss, tells(x.p))
		}
	}
}

// P11.4: the raise of whoever is gone starts from the kiss's exponent.
func TestKissedAndGone(t *testing.T) {
	x := pairOf(t, api.Assoc{MinPoll: 3, MaxPoll: 10}, 0, 0)
	x.unheard(12, 3)
	x.kissed(0, 6)
	x.is(told{next: 64, exponent: 6, gone: 12})
	x.sent(0, 3)
	x.is(told{next: 128, exponent: 7, gone: 13})
	x.sent(0, 3)
	x.is(told{next: 256, exponent: 8, gone: 14})
}

// P11.4: a kiss leaves no question of a burst, wherever it comes within one; REACH and GONE stay; the next one begins a round.
func TestKissedWithinBurst(t *testing.T) {
	for asked := 1; asked <= 6; asked++ {
		for _, answered := range []bool{false, true} {
			x := pairOf(t, api.Assoc{MinPoll: 4, MaxPoll: 8, Burst: true, Iburst: true}, 0, 0)
			for i := range asked {
				x.sent(2*i, 5)
			}
			want := told{next: 100 + 64, exponent: 6, gone: 1}
			if answered {
				x.heard(20)
				want.reach, want.gone = 1, 0
			}
			x.kissed(100, 6)
			x.is(want)
			for _, next := range []int{202, 202, 202, 202, 202, 264} {
				x.sent(200, 4)
				want := told{next: next, exponent: 6, gone: 2}
				if answered {
					want.reach, want.gone = 2, 0
				}
				x.is(want)
			}
		}
	}
}

// P11.4: behind a kiss that asks for nothing more a burst is over as well.
func TestKissedForNothing(t *testing.T) {
	x := pairOf(t, api.Assoc{MinPoll: 4, MaxPoll: 8, Iburst: true}, 0, 0)
	x.sent(0, 4)
	x.kissed(1, -1)
	x.is(told{next: 17, exponent: 4, gone: 1})
	x.sent(17, 4)
	x.is(told{next: 19, exponent: 4, gone: 2})
}
