package poll_test

import (
	"testing"

	"foliot/api"
)

// P11.3: Sent's time, with questions left, with the last of them, and with none.
func TestSentTimes(t *testing.T) {
	for _, c := range times {
		x := pairOf(t, api.Assoc{MinPoll: 6, MaxPoll: 8, Iburst: true}, 0, 0)
		for range 5 {
			x.sent(c.now, 7)
			x.is(told{next: c.counts + 2, exponent: 7, gone: 1})
		}
		x.sent(c.now, 7)
		x.is(told{next: c.counts + 128, exponent: 7, gone: 1})
		x = pairOf(t, api.Assoc{MinPoll: 6, MaxPoll: 8}, 0, 0)
		x.sent(c.now, 7)
		x.is(told{next: c.counts + 128, exponent: 7, gone: 1})
	}
}

// P11.3: a time that lies ahead of the last one counts as any other.
func TestSentBackwards(t *testing.T) {
	x := pairOf(t, api.Assoc{MinPoll: 4, MaxPoll: 6}, 1000, 0)
	x.sent(900, 4)
	x.is(told{next: 916, exponent: 4, gone: 1})
	x.sent(0, 4)
	x.is(told{next: 16, exponent: 4, gone: 2})
}

// P11.3: REACH goes up by a bit with each question, and what is above eight bits is lost; GONE counts from then on.
func TestReachGoes(t *testing.T) {
	x := pairOf(t, api.Assoc{MinPoll: 4, MaxPoll: 6}, 0, 0)
	x.heard(0)
	for _, want := range []told{
		{reach: 2}, {reach: 4}, {reach: 8}, {reach: 16}, {reach: 32}, {reach: 64}, {reach: 128},
		{reach: 0, gone: 1}, {reach: 0, gone: 2}, {reach: 0, gone: 3},
	} {
		x.sent(0, 4)
		want.next, want.exponent = 16, 4
		x.is(want)
	}
}

// P11.3: all that REACH may be, doubled; GONE counts just where nothing of it is left.
func TestReachDoubled(t *testing.T) {
	for reach := range 256 {
		x := pairOf(t, api.Assoc{MinPoll: 4, MaxPoll: 6}, 0, 0)
		for bit := 7; bit >= 0; bit-- {
			x.sent(0, 4)
			if reach>>bit&1 == 1 {
				x.heard(0)
			}
		}
		if x.p.Reach() != reach {
			t.Fatalf("Reach is %d, not %d", x.p.Reach(), reach)
		}
		gone := x.p.Gone()
		x.sent(0, 4)
		want := told{next: 16, exponent: 4, reach: 2 * reach % 256, gone: gone}
		if want.reach == 0 {
			want.gone++
		}
		x.is(want)
	}
}

// P11.3: eight ones, of which one after the other is lost.
func TestReachFull(t *testing.T) {
	x := pairOf(t, api.Assoc{MinPoll: 4, MaxPoll: 6}, 0, 0)
	for range 20 {
		x.sent(0, 4)
		x.heard(0)
	}
	for _, reach := range []int{254, 252, 248, 240, 224, 192, 128, 0} {
		x.sent(0, 4)
		if x.p.Reach() != reach {
			t.Fatalf("Reach is %d, not %d", x.p.Reach(), reach)
		}
	}
	if x.p.Gone() != 1 {
		t.Errorf("Gone is %d", x.p.Gone())
	}
}

// P11.3: GONE is at most 100, of whoever was never heard, and of whoever is heard no more.
func TestGoneAtMost(t *testing.T) {
	for _, heard := range []bool{false, true} {
		for _, a := range kinds(3, 10) {
			x := pairOf(t, a, 0, 0)
			rounds := 0
			if heard {
				x.heard(0)
				rounds = 7
			}
			x.unheard(rounds, 3)
			for i := 1; i <= 300; i++ {
				x.unheard(1, 3)
				if x.p.Gone() != min(i, 100) {
					t.Fatalf("Gone is %d behind %d", x.p.Gone(), i)
				}
			}
		}
	}
}

// P11.3: system below MinPoll, within, above MaxPoll, and far beyond either.
func TestExponentOfSystem(t *testing.T) {
	for _, c := range []struct{ system, want int }{
		{least, 5}, {-5, 5}, {-1, 5}, {0, 5}, {3, 5}, {4, 5}, {5, 5}, {6, 6}, {7, 7}, {8, 8}, {9, 8}, {10, 8}, {64, 8}, {greatest, 8},
	} {
		for _, a := range kinds(5, 8) {
			x := pairOf(t, a, 0, 0)
			x.sent(0, c.system)
			x.endRound(0)
			x.is(told{next: pow(c.want), exponent: c.want, gone: 1})
			x.heard(0)
			x.sent(0, c.system)
			x.endRound(0)
			x.is(told{next: pow(c.want), exponent: c.want, reach: 2})
		}
	}
}

// P11.3: the exponent is the system's of each round, no more and no less than the one ahead was.
func TestExponentFollows(t *testing.T) {
	x := pairOf(t, api.Assoc{MinPoll: 3, MaxPoll: 10}, 0, 0)
	for _, system := range []int{3, 10, 7, 8, 4, 4, 9, 3} {
		x.sent(0, system)
		if x.p.Exponent() != system || x.p.Next() != pow(system) {
			t.Fatalf("of %d: %+v", system, tells(x.p))
		}
	}
}

// P11.3: GONE at 12, 13, 99, 100 and beyond, with every system's exponent: it is raised by what is above 12, at most to MaxPoll.
func TestExponentOfGone(t *testing.T) {
	for _, c := range []struct{ rounds, raise int }{{11, 0}, {12, 0}, {13, 1}, {14, 2}, {15, 3}, {18, 6}, {19, 7}, {20, 7}, {99, 7}, {100, 7}, {101, 7}, {150, 7}} {
		for system := 2; system <= 11; system++ {
			for _, a := range kinds(3, 10) {
				x := pairOf(t, a, 0, 0)
				x.unheard(c.rounds-1, system)
				x.sent(0, system)
				x.endRound(0)
				want := min(nearest(system, 3, 10)+c.raise, 10)
				x.is(told{next: pow(want), exponent: want, gone: min(c.rounds, 100)})
			}
		}
	}
}

// P11.3: the raise is of the system's exponent, not of the one that was raised already; and none of it is left, once it is heard.
func TestRaiseIsNotKept(t *testing.T) {
	x := pairOf(t, api.Assoc{MinPoll: 3, MaxPoll: 10}, 0, 0)
	x.unheard(15, 9)
	x.is(told{next: 1024, exponent: 10, gone: 15})
	x.sent(0, 3)
	x.is(told{next: 128, exponent: 7, gone: 16})
	x.heard(0)
	x.is(told{next: 128, exponent: 7, reach: 1})
	x.sent(0, 3)
	x.is(told{next: 8, exponent: 3, reach: 2})
}

// P11.3: MaxPoll below api's cuts the raise; MinPoll that is MaxPoll leaves none.
func TestRaiseAtMost(t *testing.T) {
	for high := 3; high <= 10; high++ {
		for low := 3; low <= high; low++ {
			x := pairOf(t, api.Assoc{MinPoll: low, MaxPoll: high}, 0, 0)
			for i := 1; i <= 30; i++ {
				x.sent(0, 0)
				want := min(low+max(i-12, 0), high)
				x.is(told{next: pow(want), exponent: want, gone: i})
			}
		}
	}
}

// P11.3: who is asked by a burst: whoever is not heard by Iburst, whoever is by Burst.
func TestBursts(t *testing.T) {
	for i, c := range []struct{ silent, heard bool }{{false, false}, {false, true}, {true, false}, {true, true}} {
		a := kinds(4, 6)[i]
		x := pairOf(t, a, 0, 0)
		for range 2 {
			checkRound(x, c.silent)
		}
		x.heard(0)
		for range 7 {
			checkRound(x, c.heard)
		}
		checkRound(x, c.silent)
	}
}

// checkRound sends one round of six questions, if it bursts, else of one; the next round begins 2^5 seconds behind it.
func checkRound(x *pair, bursts bool) {
	x.t.Helper()
	nexts := []int{1032}
	if bursts {
		nexts = []int{1002, 1002, 1002, 1002, 1002, 1032}
	}
	reach := 2 * x.p.Reach() % 256
	for i, next := range nexts {
		x.sent(1000, 5)
		if x.p.Next() != next || x.p.Reach() != reach {
			x.t.Fatalf("question %d of %+v: %+v, not next %d, reach %d", i, x.m.assoc, tells(x.p), next, reach)
		}
	}
}

// P11.3: with GONE above 12 there are no bursts any more, till it is heard.
func TestNoBurstOfGone(t *testing.T) {
	for i, a := range kinds(4, 6) {
		x := pairOf(t, a, 0, 0)
		for range 12 {
			checkRound(x, i >= 2)
		}
		for gone := 13; gone <= 110; gone++ {
			x.sent(50, 4)
			want := min(4+gone-12, 6)
			x.is(told{next: 50 + pow(want), exponent: want, gone: min(gone, 100)})
		}
		x.heard(0)
		for range 7 {
			checkRound(x, i%2 == 1)
		}
		checkRound(x, i >= 2)
	}
}

// P11.3: within a burst neither REACH nor GONE nor the exponent changes, whatever the system's is; behind the last question the exponent of its beginning counts.
func TestWithinBurst(t *testing.T) {
	for _, system := range []int{least, 3, 6, 10, greatest} {
		x := pairOf(t, api.Assoc{MinPoll: 3, MaxPoll: 10, Iburst: true}, 0, 0)
		x.sent(0, 6)
		for i := 1; i <= 4; i++ {
			x.sent(10*i, system)
			x.is(told{next: 10*i + 2, exponent: 6, gone: 1})
		}
		x.sent(50, system)
		x.is(told{next: 114, exponent: 6, gone: 1})
		x.sent(114, 5)
		x.is(told{next: 116, exponent: 5, gone: 2})
	}
}

// P11.3: whoever is heard within a burst is asked to its end, and by the other kind of burst from the next round on.
func TestHeardWithinBurst(t *testing.T) {
	for _, both := range []bool{false, true} {
		for at := 1; at <= 6; at++ {
			x := pairOf(t, api.Assoc{MinPoll: 4, MaxPoll: 6, Burst: both, Iburst: true}, 0, 0)
			for i := 1; i <= 6; i++ {
				x.sent(0, 4)
				if i == at {
					x.heard(1)
				}
			}
			x.is(told{next: 16, exponent: 4, reach: 1})
			checkRound(x, both)
		}
	}
}

// P11.3: a burst counts as one question: eight of them empty REACH.
func TestBurstIsOneQuestion(t *testing.T) {
	x := pairOf(t, api.Assoc{MinPoll: 4, MaxPoll: 6, Burst: true}, 0, 0)
	x.heard(0)
	for i := 1; i <= 7; i++ {
		checkRound(x, true)
		if x.p.Reach() != pow(i) {
			t.Fatalf("Reach is %d behind %d bursts", x.p.Reach(), i)
		}
	}
	checkRound(x, false)
	if x.p.Reach() != 0 || x.p.Gone() != 1 {
		t.Errorf("behind eight bursts: %+v", tells(x.p))
	}
}
