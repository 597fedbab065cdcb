package loop_test

import (
	"testing"

	"foliot/api"
)

// quiet is one more for a greater exponent; loud one for a lesser. Neither changes the rate.
func quiet(x *pair) {
	x.t.Helper()
	x.acts(0, 1, 0, api.ActSlew)
}

func loud(x *pair) {
	x.t.Helper()
	x.acts(0, 0, 0, api.ActSlew)
}

// wantPoll holds the exponent behind a text of calls: + is quiet, - is loud.
func wantPoll(t *testing.T, exponent int, calls string, want int) {
	t.Helper()
	x := raised(t, config(), 5, exponent)
	for _, c := range calls {
		if c == '+' {
			quiet(x)
		} else {
			loud(x)
		}
	}
	x.is(told{rate: 5, state: steady, poll: want})
}

// P15.2, FOLLOWED: how many it takes to rise from each exponent: TALLY is 30 at most ahead of the last of them.
func TestPollRises(t *testing.T) {
	for exponent, count := range map[int]int{3: 11, 4: 8, 5: 7, 6: 6, 7: 5, 8: 4, 9: 4} {
		x := raised(t, config(), 5, exponent)
		for range count - 1 {
			quiet(x)
			x.is(told{rate: 5, state: steady, poll: exponent})
		}
		quiet(x)
		x.is(told{rate: 5, state: steady, poll: exponent + 1})
	}
}

// P15.2, FOLLOWED: how many it takes to fall: TALLY is -30 at least ahead of the last of them.
func TestPollFalls(t *testing.T) {
	for exponent, count := range map[int]int{10: 2, 9: 2, 8: 2, 7: 3, 6: 3, 5: 4, 4: 4} {
		x := raised(t, config(), 5, exponent)
		for range count - 1 {
			loud(x)
			x.is(told{rate: 5, state: steady, poll: exponent})
		}
		loud(x)
		x.is(told{rate: 5, state: steady, poll: exponent - 1})
	}
}

// P15.2, FOLLOWED: TALLY at 30 and -30, and beyond by as little as may be, on ways that go up and down.
func TestTally(t *testing.T) {
	for _, x := range []struct {
		exponent int
		calls    string
		want     int
	}{
		{3, "++++++++++", 3},           // 30
		{3, "+++++++++++", 4},          // 33
		{3, "-++++++++++++", 3},        // 30
		{3, "-+++++++++++++", 4},       // 33
		{5, "++++++", 5},               // 30
		{5, "-++++++++", 5},            // 30
		{6, "+++++", 6},                // 30
		{8, "+++", 8},                  // 24
		{8, "++++", 9},                 // 32
		{4, "+++++++", 4},              // 28
		{4, "++++++++", 5},             // 32
		{5, "---", 5},                  // -30
		{5, "+----", 4},                // -35
		{5, "---++----", 4},            // -40
		{5, "---+++++++++++++++", 6},   // -30, then up to 35
		{5, "---++++++++++++", 5},      // -30, then up to 30
		{10, "-+-", 10},                // -30
		{10, "-+--", 9},                // -50
		{9, "-+-", 9},                  // -27
		{9, "-++-", 9},                 // -18
		{9, "-++--", 8},                // -36
		{9, "--", 8},                   // -36
		{4, "---", 4},                  // -24
		{4, "---+-", 4},                // -28
		{4, "----", 3},                 // -32
		{4, "++++++----", 4},           // 24, then -8
		{4, "++++++-------", 3},        // 24, then -32
		{10, "++-", 10},                // 0
		{10, "++---", 9},               // -40
		{3, "+-+-+-+-+-", 3},           // -15
		{3, "+-+-+-+-+-+-+-+-+-+-", 3}, // -30
	} {
		wantPoll(t, x.exponent, x.calls, x.want)
	}
}

// P15.2, FOLLOWED: behind a change TALLY is 0, whatever was beyond.
func TestTallyIsForgotten(t *testing.T) {
	// To 4 by 33: eight more are wanted, not seven.
	wantPoll(t, 3, "+++++++++++"+"+++++++", 4)
	wantPoll(t, 3, "+++++++++++"+"++++++++", 5)
	// To 4 by -40: four more.
	wantPoll(t, 5, "----"+"---", 4)
	wantPoll(t, 5, "----"+"----", 3)
	// To 5 by 32, and back to 4 by -40, and to 5 by 32.
	wantPoll(t, 4, "++++++++"+"---", 5)
	wantPoll(t, 4, "++++++++"+"----", 4)
	wantPoll(t, 4, "++++++++"+"----"+"+++++++", 4)
	wantPoll(t, 4, "++++++++"+"----"+"++++++++", 5)
}

// P15.2, FOLLOWED: at MinPoll and MaxPoll TALLY goes back to 0 likewise, though the exponent stays.
func TestTallyAtTheEnds(t *testing.T) {
	wantPoll(t, 10, "+++", 10)
	wantPoll(t, 10, "+++--", 10)  // 30, then -10
	wantPoll(t, 10, "+++---", 10) // -30
	wantPoll(t, 10, "+++----", 9) // -50
	wantPoll(t, 10, "++++-", 10)  // 40 is 0, then -20
	wantPoll(t, 10, "++++--", 9)  // -40
	wantPoll(t, 10, "++++++++++++++++++++--", 9)
	wantPoll(t, 3, "-----", 3)
	wantPoll(t, 3, "-----"+"++++++++++++++++++++", 3)  // -30, then 30
	wantPoll(t, 3, "-----"+"+++++++++++++++++++++", 4) // 33
	wantPoll(t, 3, "------"+"++++++++++", 3)           // -36 is 0, then 30
	wantPoll(t, 3, "------"+"+++++++++++", 4)          // 33
	wantPoll(t, 3, "------------------"+"+++++++++++", 4)
}

// P15.2, FOLLOWED: an offset's SIZE just below, at and just above 4 times the jitter.
func TestNoise(t *testing.T) {
	for _, x := range []struct {
		offset, jitter api.Span
		noise          bool
	}{
		{3, 1, true}, {4, 1, false}, {5, 1, false}, {-3, 1, true}, {-4, 1, false}, {-5, 1, false},
		{0, 1, true}, {0, 0, false}, {1, 0, false}, {0, -1, false}, {-1, -1, false}, {3, -1, false}, {0, lowest, false}, {1, lowest, false}, {-most, lowest, false},
		{4*milli - 1, milli, true}, {4 * milli, milli, false}, {4*milli + 1, milli, false}, {1 - 4*milli, milli, true}, {-4 * milli, milli, false}, {-4*milli - 1, milli, false},
		// What is 4 times the jitter saturates, and no SIZE is greater.
		{most - 5, most/4 - 1, true}, {most - 4, most/4 - 1, false}, {most - 1, most / 4, true}, {most, most / 4, false},
		{most - 1, most/4 + 1, true}, {most, most/4 + 1, false}, {top, most/4 + 1, false}, {most - 1, most, true}, {most, most, false},
		{most - 1, top, true}, {most, top, false}, {top, top, false}, {1 - most, top, true}, {-most, top, false}, {lowest, top, false}, {0, top, true},
		{0, 1 << 61, true}, {0, 1 << 60, true}, {0, 1<<62 + 5, true}, {second, 3 << 61, true},
	} {
		// TALLY is 30: one more is too much; it is -30: likewise.
		p := raised(t, wide(), 0, 5)
		for range 6 {
			quiet(p)
		}
		p.acts(x.offset, x.jitter, 0, api.ActSlew)
		if rises := p.l.Poll() == 6; rises != x.noise {
			t.Errorf("of %d beside the jitter %d the exponent is %d", x.offset, x.jitter, p.l.Poll())
		}
		p = raised(t, wide(), 0, 5)
		for range 3 {
			loud(p)
		}
		p.acts(x.offset, x.jitter, 0, api.ActSlew)
		if falls := p.l.Poll() == 4; falls == x.noise {
			t.Errorf("of %d beside the jitter %d the exponent is %d", x.offset, x.jitter, p.l.Poll())
		}
	}
}

// P15.2: only what is followed counts for TALLY, from MEASURING and FILED too; not the first offset, nor what is borne, or spikes.
func TestWhatCountsForTally(t *testing.T) {
	// FILED: the first of eleven.
	x := brought(t, filed, 0)
	for i := range 10 {
		quiet(x)
		x.is(told{rate: 5, state: steady, poll: 3})
		// In between, but for the first ones, what is too large, and too large again.
		if i > 5 {
			x.acts(2*second, 1<<50, 0, api.ActNone)
			x.acts(2*second, 1<<50, 0, api.ActNone)
		}
	}
	quiet(x)
	x.is(told{rate: 5, state: steady, poll: 4})
	// NEVER and MEASURING: the one that ends it is the first of eleven.
	x = brought(t, never, 0)
	for now := range 300 {
		x.acts(0, 1, now, api.ActNone)
	}
	for range 10 {
		x.acts(0, 1, 300, api.ActSlew)
		x.is(told{state: steady, poll: 3})
	}
	x.acts(0, 1, 300, api.ActSlew)
	x.is(told{state: steady, poll: 4})
}

// P15.2: what is adjusted, and what is slewed, hang on the exponent as it is ahead of the change, and behind it.
func TestPollBehindTheRate(t *testing.T) {
	x := raised(t, wide(), 0, 4)
	for range 7 {
		quiet(x)
	}
	// At 4 a second's part of the rate is 2^30 / 2^8, at 5 it is a fourth of that; at 5 a second slews a 128th.
	x.acts(milli, milli, 0, api.ActSlew)
	x.is(told{rate: 1 << 22, state: steady, poll: 5, left: milli})
	if slewed := x.tick(); slewed != milli/128 {
		t.Errorf("Tick is %d", slewed)
	}
	x.acts(milli, milli, 0, api.ActSlew)
	x.is(told{rate: 1<<22 + 1<<20, state: steady, poll: 5, left: milli})
}
