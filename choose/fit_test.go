package choose_test

import (
	"math"
	"testing"

	"foliot/api"
	"foliot/choose"
)

// wide is more than any candidate's Dist that counts.
const wide = api.Span(math.MaxInt64)

// P13.1: each bound of what counts, of the Stratum and of most, just so and one beside it.
func TestFitEdges(t *testing.T) {
	for _, x := range []struct {
		c    api.Cand
		most api.Span
		want bool
	}{
		{api.Cand{}, 0, true},
		{api.Cand{Offset: -77, Dist: 1 << 30, Stratum: 2}, 6442450944, true},
		{api.Cand{Dist: -1}, wide, false},
		{api.Cand{Dist: 0}, wide, true},
		{api.Cand{Dist: 1 << 52}, wide, true},
		{api.Cand{Dist: 1<<52 + 1}, wide, false},
		{api.Cand{Offset: -1<<60 - 1}, wide, false},
		{api.Cand{Offset: -1 << 60}, wide, true},
		{api.Cand{Offset: 1 << 60}, wide, true},
		{api.Cand{Offset: 1<<60 + 1}, wide, false},
		{api.Cand{Offset: math.MinInt64}, wide, false},
		{api.Cand{Offset: math.MaxInt64}, wide, false},
		{api.Cand{Dist: math.MinInt64}, wide, false},
		{api.Cand{Dist: math.MaxInt64}, wide, false},
		{api.Cand{Stratum: math.MinInt}, wide, false},
		{api.Cand{Stratum: -1}, wide, false},
		{api.Cand{Stratum: 0}, wide, true},
		{api.Cand{Stratum: 1}, wide, true},
		{api.Cand{Stratum: 15}, wide, true},
		{api.Cand{Stratum: 16}, wide, false},
		{api.Cand{Stratum: math.MaxInt}, wide, false},
		{api.Cand{Dist: 4}, 5, true},
		{api.Cand{Dist: 5}, 5, true},
		{api.Cand{Dist: 6}, 5, false},
		{api.Cand{Dist: 1 << 52}, 1 << 52, true},
		{api.Cand{Dist: 1 << 52}, 1<<52 - 1, false},
		{api.Cand{Dist: 0}, 0, true},
		{api.Cand{Dist: 1}, 0, false},
		{api.Cand{Dist: 0}, -1, false},
		{api.Cand{Dist: -1}, -1, false},
		{api.Cand{Dist: -2}, -1, false},
		{api.Cand{Dist: math.MinInt64}, math.MinInt64, false},
	} {
		if got := choose.Fit(x.c, x.most); got != x.want {
			t.Errorf("Fit(%+v, %v) is %v", x.c, x.most, got)
		}
	}
}

// P13.1: all that is asked must hold at once.
func TestFitTogether(t *testing.T) {
	type is struct {
		x    api.Span
		fits bool
	}
	for _, offset := range []is{{-farOffset - 1, false}, {-farOffset, true}, {0, true}, {farOffset, true}, {farOffset + 1, false}} {
		for _, dist := range []is{{-1, false}, {0, true}, {99, true}, {100, true}, {101, false}, {farDist + 1, false}} {
			for _, stratum := range []is{{-1, false}, {0, true}, {15, true}, {16, false}} {
				c := api.Cand{Offset: offset.x, Dist: dist.x, Stratum: int(stratum.x)}
				if got, want := choose.Fit(c, 100), offset.fits && dist.fits && stratum.fits; got != want {
					t.Errorf("Fit(%+v, 100) is %v", c, got)
				}
			}
		}
	}
}

// P13.1: whatever else a candidate says makes no difference.
func TestFitOther(t *testing.T) {
	for _, c := range []api.Cand{
		{ID: math.MinInt}, {ID: math.MaxInt}, {Jitter: math.MinInt64}, {Jitter: math.MaxInt64}, {Prefer: true}, {Pulse: true},
	} {
		c.Dist = 5
		if choose.Fit(c, 4) || !choose.Fit(c, 5) {
			t.Errorf("%+v: %v within 4, %v within 5", c, choose.Fit(c, 4), choose.Fit(c, 5))
		}
	}
}

// P13.1: whoever fits has ends, of whatever Stratum; and whoever has none does not fit.
func TestFitCounts(t *testing.T) {
	for _, c := range useless() {
		if choose.Fit(c, wide) || len(choose.Ends([]api.Cand{c})) != 0 {
			t.Errorf("%+v counts", c)
		}
	}
	r := drawer(1)
	for range 5000 {
		for _, c := range drawAny(r) {
			most := drawSpan(r, 52)
			want := len(counted([]api.Cand{c})) == 1 && c.Stratum >= 0 && c.Stratum <= 15 && c.Dist <= most
			if got := choose.Fit(c, most); got != want {
				t.Fatalf("Fit(%+v, %v) is %v", c, most, got)
			}
		}
	}
}
