package loop_test

import (
	"testing"

	"foliot/api"
)

// wantTurned holds what an offset makes of a rate, with BASE and WHEN 0.
func wantTurned(t *testing.T, exponent int, was api.Freq, offset api.Span, now int, want api.Freq) {
	t.Helper()
	x := raised(t, wide(), was, exponent)
	x.acts(offset, 1, now, api.ActSlew)
	if got := x.l.Freq(); got != want {
		t.Errorf("at the exponent %d %d at %d makes %d of the rate %d, not %d", exponent, offset, now, got, was, want)
	}
}

// P15.2, ADJUSTED: d at its edges, at each exponent. Of 2^22 within a second the rate is 2^30 / 2^(2p) more.
func TestAdjustedGaps(t *testing.T) {
	for exponent := 3; exponent <= 10; exponent++ {
		length := 1 << exponent
		one := api.Freq(1<<30) >> (2 * exponent)
		for _, x := range []struct{ now, counts int }{
			{least, 1}, {-1, 1}, {0, 1}, {1, 1}, {2, 2}, {length - 1, length - 1}, {length, length}, {length + 1, length},
			{2 * length, length}, {1<<11 - 1, length}, {1 << 11, length},
		} {
			wantTurned(t, exponent, 0, milli, x.now, one*api.Freq(x.counts))
			wantTurned(t, exponent, 0, -milli, x.now, -one*api.Freq(x.counts))
			wantTurned(t, exponent, 77, milli, x.now, 77+one*api.Freq(x.counts))
		}
		// From there on the exponent makes no difference: it is 2^22 * 2^48 / (8 * d * 2^32).
		for _, x := range []struct {
			now         int
			more, below api.Freq
		}{
			{1<<11 + 1, 16769027, -16769028}, {1<<11 + 2, 16760847, -16760848}, {1 << 12, 1 << 23, -1 << 23}, {1 << 20, 1 << 15, -1 << 15},
		} {
			wantTurned(t, exponent, 0, milli, x.now, x.more)
			wantTurned(t, exponent, 0, -milli, x.now, x.below)
			wantTurned(t, exponent, 77, milli, x.now, 77+x.more)
		}
	}
}

// P15.2, ADJUSTED: eight times the longest gaps are a span, which saturates.
func TestAdjustedLongestGaps(t *testing.T) {
	for _, x := range []struct {
		now  int
		want api.Freq
	}{
		{1 << 26, 512}, {1<<27 - 1, 256}, {1 << 27, 256}, {1<<27 + 1, 256}, {1 << 28, 256}, {1 << 29, 256},
		{latest - 1, 256}, {latest, 256}, {latest + 1, 256}, {greatest, 256},
	} {
		wantTurned(t, 3, 0, milli, x.now, x.want)
		wantTurned(t, 10, 9, milli, x.now, 9+x.want)
	}
	wantTurned(t, 3, 0, -milli, 1<<27-1, -257)
	wantTurned(t, 3, 0, -milli, latest, -256)
}

// P15.2, ADJUSTED: what is divided is divided down, below 0 too.
func TestAdjustedDivided(t *testing.T) {
	for _, x := range []struct {
		exponent int
		offset   api.Span
		now      int
		want     api.Freq
	}{
		{3, 1, 1, 4}, {3, -1, 1, -4}, {3, 1, 8, 32}, {4, 1, 1, 1}, {4, -1, 1, -1}, {4, 3, 16, 48},
		{5, 1, 1, 0}, {5, 3, 1, 0}, {5, 4, 1, 1}, {5, 7, 1, 1}, {5, -1, 1, -1}, {5, -4, 1, -1}, {5, -5, 1, -2},
		{10, 4095, 1, 0}, {10, 4096, 1, 1}, {10, -1, 1, -1}, {10, -4096, 1, -1}, {10, -4097, 1, -2},
		// It is divided once, behind all products.
		{10, 5, 1000, 1}, {10, -5, 1000, -2}, {10, 3, 1365, 0}, {10, 4, 1024, 1}, {6, 17, 3, 3}, {6, -17, 3, -4},
		{3, 1, 2049, 3}, {3, -1, 2049, -4}, {3, 1, 8192, 1}, {3, 1, 8193, 0}, {3, -1, 8193, -1}, {3, -2, 8192, -2},
	} {
		wantTurned(t, x.exponent, 0, x.offset, x.now, x.want)
	}
	// Of nothing there is nothing, after any time.
	for exponent := 3; exponent <= 10; exponent++ {
		for _, now := range []int{0, 1, 8, 1024, 2048, 2049, latest} {
			wantTurned(t, exponent, 5, 0, now, 5)
		}
	}
}

// P15.2, ADJUSTED: x at, below and above MaxFreq and its negative; a rate at the other end shows what it was cut to.
func TestAdjustedCut(t *testing.T) {
	for _, x := range []struct {
		exponent int
		offset   api.Span
		now      int
		counts   api.Freq
	}{
		// A 4096th.
		{10, 4096*api.Span(fastest) - 1, 1, fastest - 1},
		{10, 4096 * api.Span(fastest), 1, fastest},
		{10, 4096*api.Span(fastest) + 4095, 1, fastest},
		{10, 4096*api.Span(fastest) + 4096, 1, fastest},
		{10, 4096*api.Span(fastest) + 8192, 1, fastest},
		{10, -4096*api.Span(fastest) + 4096, 1, 1 - fastest},
		{10, -4096*api.Span(fastest) + 1, 1, -fastest},
		{10, -4096 * api.Span(fastest), 1, -fastest},
		{10, -4096*api.Span(fastest) - 1, 1, -fastest},
		{10, -4096*api.Span(fastest) - 4096, 1, -fastest},
		// 32 times as much.
		{3, 4398046511, 8, 140737488352},
		{3, 4398046512, 8, fastest},
		{3, -4398046511, 8, -140737488352},
		{3, -4398046512, 8, -fastest},
		// As much.
		{5, api.Span(fastest) - 1, 8192, fastest - 1},
		{5, api.Span(fastest), 8192, fastest},
		{5, api.Span(fastest) + 1, 8192, fastest},
		{5, 1 - api.Span(fastest), 8192, 1 - fastest},
		{5, -api.Span(fastest), 8192, -fastest},
		{5, -1 - api.Span(fastest), 8192, -fastest},
		// Far beyond.
		{3, most, 1, fastest}, {3, most, 8, fastest}, {10, most, 1, fastest}, {10, most, 1024, fastest}, {3, most, 2049, fastest}, {3, most, latest, fastest},
		{3, -most, 1, -fastest}, {3, -most, 8, -fastest}, {10, -most, 1, -fastest}, {10, -most, 1024, -fastest}, {3, -most, 2049, -fastest}, {3, -most, latest, -fastest},
		{3, top, 8, fastest}, {3, lowest, 8, -fastest}, {10, top, latest, fastest}, {10, lowest, latest, -fastest},
	} {
		wantTurned(t, x.exponent, 0, x.offset, x.now, x.counts)
		if x.counts > 0 {
			wantTurned(t, x.exponent, -fastest, x.offset, x.now, x.counts-fastest)
			wantTurned(t, x.exponent, fastest, x.offset, x.now, fastest)
		} else {
			wantTurned(t, x.exponent, fastest, x.offset, x.now, x.counts+fastest)
			wantTurned(t, x.exponent, -fastest, x.offset, x.now, -fastest)
		}
	}
}

// P15.2, ADJUSTED: the rate's sum at its cut and beyond; what was cut off is forgotten.
func TestRateIsCut(t *testing.T) {
	for _, x := range []struct {
		was  api.Freq
		more api.Span
		want api.Freq
	}{
		{fastest - 3, 2, fastest - 1}, {fastest - 3, 3, fastest}, {fastest - 3, 4, fastest}, {fastest - 3, 1000, fastest}, {fastest, 1, fastest},
		{3 - fastest, -2, 1 - fastest}, {3 - fastest, -3, -fastest}, {3 - fastest, -4, -fastest}, {3 - fastest, -1000, -fastest}, {-fastest, -1, -fastest},
		{fastest, -1, fastest - 1}, {-fastest, 1, 1 - fastest},
	} {
		for _, now := range []int{0, 1} {
			wantTurned(t, 10, x.was, 4096*x.more, now, x.want)
		}
		wantTurned(t, 3, x.was, x.more, 8192, x.want)
		p := raised(t, wide(), x.was, 10)
		p.acts(4096*x.more, 1<<40, 1, api.ActSlew)
		back := -x.more / max(1, -x.more, x.more)
		p.acts(4096*back, 1<<40, 1, api.ActSlew)
		if got := p.l.Freq(); got != x.want+api.Freq(back) {
			t.Errorf("back from %d the rate is %d", x.want, got)
		}
	}
}

// P15.2, ADJUSTED: within 2^11 seconds the offset counts, farther apart the difference to BASE.
func TestAdjustedFromBase(t *testing.T) {
	for _, base := range []api.Span{-9 * milli, -1, 0, 1, 9 * milli} {
		for now, want := range map[int]api.Freq{
			1:       api.Freq(4 * milli),
			2048:    api.Freq(32 * milli),
			1 << 13: api.Freq(milli - base),
			1 << 16: api.Freq(over(number(int64(milli-base)), number(8)).Int64()),
		} {
			x := pairOf(t, wide(), 5, true)
			x.acts(base, 1, 0, api.ActSlew)
			// What was slewed in between makes no difference.
			for range 100 {
				x.tick()
			}
			x.acts(milli, 1, now, api.ActSlew)
			if got := x.l.Freq(); got != 5+want {
				t.Errorf("from %d behind %d the rate is %d, not %d", base, now, got, 5+want)
			}
		}
	}
	// The difference saturates, and does not turn round.
	x := pairOf(t, wide(), 5, true)
	x.acts(lowest, 1, 0, api.ActSlew)
	x.acts(top, 1, latest, api.ActSlew)
	x.is(told{rate: fastest, state: steady, poll: 3, left: most})
	x = pairOf(t, wide(), 5, true)
	x.acts(top, 1, 0, api.ActSlew)
	x.acts(lowest, 1, latest, api.ActSlew)
	x.is(told{rate: 5 - fastest, state: steady, poll: 3, left: -most})
}

// P15.2, ADJUSTED: behind a spike d counts from the spike.
func TestAdjustedBehindSpike(t *testing.T) {
	for _, gap := range []int{0, 1, 5, 8, 299, 300, 2048, 2049} {
		x := brought(t, steady, 10)
		x.acts(2*second, 1, 1000, api.ActNone)
		x.acts(milli, 1, 1000+gap, api.ActSlew)
		want := 4 * api.Freq(milli) * api.Freq(min(max(gap, 1), 8))
		if gap == 2049 {
			want = 0 // the offset is what it was
		}
		x.is(told{rate: 5 + want, state: steady, poll: 3, left: milli})
	}
}

// P15.2, ADJUSTED: d counts from the last offset that was followed, or stepped.
func TestAdjustedSinceWhen(t *testing.T) {
	x := pairOf(t, config(), 0, true)
	x.acts(1, 0, 1000, api.ActSlew)
	want := api.Freq(0)
	for _, s := range []struct {
		now   int
		turns api.Freq
	}{
		{1001, 4}, {1003, 8}, {1003, 4}, {1010, 28}, {1018, 32}, {1027, 32}, {500, 4}, {507, 28}, {0, 4}, {5, 20},
	} {
		x.acts(1, 0, s.now, api.ActSlew)
		want += s.turns
		x.is(told{rate: want, state: steady, poll: 3, left: 1})
	}
	x = pairOf(t, config(), 0, true)
	x.acts(2*second, 1, 1000, api.ActStep)
	x.acts(1, 0, 1003, api.ActSlew)
	x.is(told{rate: 12, state: steady, poll: 3, left: 1})
}

// measuredBy is a rate that is measured from a first offset and time on.
func measuredBy(t *testing.T, from, to api.Span, first, then int) api.Freq {
	t.Helper()
	c := wide()
	c.Stepout = 0
	x := pairOf(t, c, 99, false)
	x.acts(from, 1, first, api.ActNone)
	x.acts(to, 1, then, api.ActSlew)
	return x.l.Freq()
}

// P15.2, MEASURED: the time that went by at its edges, and what is divided down.
func TestMeasured(t *testing.T) {
	for _, x := range []struct {
		first, then int
		more, below api.Freq // of 1 and of -1
	}{
		{0, 0, 65536, -65536}, {0, least, 65536, -65536}, {1000, 1000, 65536, -65536}, {1000, 5, 65536, -65536}, {latest, 0, 65536, -65536},
		{0, 1, 65536, -65536}, {1000, 1001, 65536, -65536}, {0, 2, 32768, -32768}, {7, 10, 21845, -21846}, {0, 300, 218, -219},
		{0, 65535, 1, -2}, {0, 65536, 1, -1}, {0, 65537, 0, -1}, {0, 1 << 20, 0, -1}, {0, latest, 0, -1}, {0, greatest, 0, -1}, {greatest, greatest, 65536, -65536},
	} {
		for _, from := range []api.Span{0, 1, -1, second, -second} {
			if got := measuredBy(t, from, from+1, x.first, x.then); got != x.more {
				t.Errorf("of 1 from %d to %d the rate is %d, not %d", x.first, x.then, got, x.more)
			}
			if got := measuredBy(t, from, from-1, x.first, x.then); got != x.below {
				t.Errorf("of -1 from %d to %d the rate is %d, not %d", x.first, x.then, got, x.below)
			}
			if got := measuredBy(t, from, from, x.first, x.then); got != 0 {
				t.Errorf("of nothing from %d to %d the rate is %d", x.first, x.then, got)
			}
		}
	}
	// 2^30 seconds are told exactly.
	for size, want := range map[api.Span]api.Freq{1<<14 - 1: 0, 1 << 14: 1, 1<<15 - 1: 1, 1 << 15: 2, -1 << 14: -1, -1<<14 - 1: -2} {
		if got := measuredBy(t, 0, size, 0, latest); got != want {
			t.Errorf("of %d behind 2^30 seconds the rate is %d, not %d", size, got, want)
		}
	}
}

// P15.2, MEASURED: the rate at, below and above MaxFreq and its negative; within 65536 seconds it is the difference itself.
func TestMeasuredCut(t *testing.T) {
	const end = api.Span(fastest)
	for _, x := range []struct {
		from, to api.Span
		want     api.Freq
	}{
		{0, end - 1, fastest - 1}, {0, end, fastest}, {0, end + 1, fastest}, {0, 2 * end, fastest},
		{0, 1 - end, 1 - fastest}, {0, -end, -fastest}, {0, -1 - end, -fastest}, {0, -2 * end, -fastest},
		{-5, end - 6, fastest - 1}, {-5, end - 5, fastest}, {-5, end - 4, fastest},
		{end, 1, 1 - fastest}, {end, 0, -fastest}, {end, -1, -fastest}, {most, most - 7, -7}, {-most, 7 - most, 7},
		{0, most, fastest}, {0, -most, -fastest}, {most, -most, -fastest}, {-most, most, fastest},
		{0, top, fastest}, {0, lowest, -fastest}, {top, lowest, -fastest}, {lowest, top, fastest}, {top, most, 0}, {lowest, -most, 0},
	} {
		if got := measuredBy(t, x.from, x.to, 0, 65536); got != x.want {
			t.Errorf("from %d to %d the rate is %d, not %d", x.from, x.to, got, x.want)
		}
	}
}
