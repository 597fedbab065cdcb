package peer_test

import (
	"math"
	"math/rand/v2"
	"testing"

	"foliot/api"
	"foliot/peer"
)

func wantDistance(t *testing.T, told peer.Told, b api.Best, now api.Stamp, want api.Span) {
	t.Helper()
	if got := peer.Distance(told, b, now); got != want {
		t.Errorf("Distance(%+v, %+v, %v) is %v, want %v", told, b, now, got, want)
	}
	if got := distanceOf(told, b, now); got != want {
		t.Errorf("by the promise it is %v", got)
	}
}

// P10.6: the distance of nothing, at any time that is At.
func TestDistanceOfNothing(t *testing.T) {
	for _, at := range []api.Stamp{0, 1, second, 1 << 63, end} {
		wantDistance(t, peer.Told{}, api.Best{At: at}, at, 1<<23)
	}
}

// P10.6: half of both Delays, but of 2^24 at least.
func TestDistanceDelay(t *testing.T) {
	const most = api.MaxSpan
	for _, x := range []struct{ told, best, want api.Span }{
		{1 << 24, 0, 1 << 23},
		{0, 1 << 24, 1 << 23},
		{1<<24 - 1, 0, 1 << 23},
		{1 << 23, 1 << 23, 1 << 23},
		{1<<23 - 1, 1 << 23, 1 << 23},
		{1<<24 + 1, 0, 1 << 23},
		{1 << 24, 1, 1 << 23},
		{1<<24 + 1, 1, 1<<23 + 1},
		{1<<24 + 2, 0, 1<<23 + 1},
		{0, 1<<24 + 3, 1<<23 + 1},
		{1 << 30, 1 << 30, 1 << 30},
		{second, 3 * second, 2 * second},
		// What is below 0 counts, as long as both together are enough.
		{-5, 1<<24 + 7, 1<<23 + 1},
		{1<<24 + 8, -5, 1<<23 + 1},
		{-1, -2, 1 << 23},
		{-second, 0, 1 << 23},
		{-second, 2 * second, second / 2},
		{math.MinInt64, math.MinInt64, 1 << 23},
		{math.MinInt64, math.MaxInt64, 1 << 23},
		// They saturate ahead of the half.
		{most, 0, most / 2},
		{most - 1, 0, most/2 - 1},
		{most - 1, 1, most / 2},
		{most, 2, most / 2},
		{most, most, most / 2},
		{math.MaxInt64, 0, most / 2},
		{0, math.MaxInt64, most / 2},
		{math.MaxInt64, math.MaxInt64, most / 2},
		{math.MaxInt64, -most, (most - 1) / 2},
	} {
		wantDistance(t, peer.Told{Delay: x.told}, api.Best{Delay: x.best}, 0, x.want)
	}
}

// P10.6: what is added to it, each alone and all together.
func TestDistanceParts(t *testing.T) {
	const base = 1 << 23
	wantDistance(t, peer.Told{Disp: 1}, api.Best{}, 0, base+1)
	wantDistance(t, peer.Told{}, api.Best{Disp: 2}, 0, base+2)
	wantDistance(t, peer.Told{}, api.Best{Jitter: 4}, 0, base+4)
	wantDistance(t, peer.Told{}, api.Best{}, second, base+64424)
	wantDistance(t, peer.Told{Delay: 1 << 30, Disp: 1}, api.Best{Delay: 1 << 30, Disp: 2, Jitter: 4, At: second}, 3*second, 1<<30+7+128849)
	wantDistance(t, peer.Told{Disp: -1}, api.Best{Disp: -2, Jitter: -4}, 0, base-7)
	wantDistance(t, peer.Told{Disp: -base}, api.Best{}, 0, 0)
	wantDistance(t, peer.Told{Disp: -base}, api.Best{Disp: -1}, 0, -1)
	// Nothing else counts.
	wantDistance(t, peer.Told{Leap: 3, Stratum: 16, Poll: 9, Precision: 7, RefID: 8, Ref: 9 * second}, api.Best{Offset: second, New: true}, 0, base)
}

// P10.6: the wear of the time since the sample; none, if that is below 0.
func TestDistanceWear(t *testing.T) {
	for _, at := range []api.Stamp{0, 1, second, 1 << 63, end} {
		for _, x := range []struct {
			age  api.Stamp
			want api.Span
		}{
			{0, 0}, {1, 0}, {66666, 0}, {66667, 1}, {second, 64424}, {2 * second, 128849}, {1000 * second, 64424509}, {1 << 52, 67553994400},
			{1 << 62, 4222124650 << 14}, {1<<62 + 1<<40, 4222124650 << 14}, {1<<63 - 1, 4222124650 << 14},
			{1 << 63, 0}, {3 << 62, 0}, {end - second, 0}, {end, 0},
		} {
			wantDistance(t, peer.Told{}, api.Best{At: at}, at+x.age, 1<<23+x.want)
		}
	}
}

// P10.6: sums saturate one by one, in their order: what is taken away behind is taken away of that.
func TestDistanceSaturates(t *testing.T) {
	const most = api.MaxSpan
	wantDistance(t, peer.Told{Disp: most}, api.Best{}, 0, most)
	wantDistance(t, peer.Told{Disp: most - 1<<23}, api.Best{}, 0, most)
	wantDistance(t, peer.Told{Disp: most - 1<<23 - 1}, api.Best{}, 0, most-1)
	wantDistance(t, peer.Told{Disp: most}, api.Best{Disp: -5}, 0, most-5)
	wantDistance(t, peer.Told{Disp: most}, api.Best{Jitter: -5}, 0, most-5)
	wantDistance(t, peer.Told{Disp: -5}, api.Best{Disp: most}, 0, most)
	wantDistance(t, peer.Told{Disp: -1<<23 - 5}, api.Best{Disp: most}, 0, most-5)
	wantDistance(t, peer.Told{}, api.Best{Disp: most, Jitter: -5}, 0, most-5)
	wantDistance(t, peer.Told{}, api.Best{Disp: -1<<23 - 5, Jitter: most}, 0, most-5)
	wantDistance(t, peer.Told{}, api.Best{Jitter: most}, second, most)
	wantDistance(t, peer.Told{Disp: -most}, api.Best{Disp: -most, Jitter: 7}, 0, -most+7)
	wantDistance(t, peer.Told{Disp: -most}, api.Best{Disp: -most}, second, -most+64424)
	wantDistance(t, peer.Told{Disp: math.MinInt64}, api.Best{}, 0, -most)
	wantDistance(t, peer.Told{Disp: math.MinInt64}, api.Best{Disp: math.MaxInt64}, 0, most-1)
	wantDistance(t, peer.Told{Delay: math.MaxInt64, Disp: math.MaxInt64}, api.Best{Delay: math.MaxInt64, Disp: math.MaxInt64, Jitter: math.MaxInt64}, 1<<63-1, most)
	wantDistance(t, peer.Told{Delay: math.MinInt64, Disp: math.MinInt64}, api.Best{Delay: math.MinInt64, Disp: math.MinInt64, Jitter: math.MinInt64}, 0, -most)
}

func drawTold(r *rand.Rand) peer.Told {
	return peer.Told{Leap: drawInt(r), Stratum: drawInt(r), Poll: drawInt(r), Precision: drawInt(r), Delay: drawSpan(r), Disp: drawSpan(r), RefID: r.Uint32(), Ref: api.Stamp(r.Uint64())}
}

func drawBest(r *rand.Rand) api.Best {
	return api.Best{Offset: drawSpan(r), Delay: drawSpan(r), Disp: drawSpan(r), Jitter: drawSpan(r), At: api.Stamp(r.Uint64()), New: r.IntN(2) == 0}
}

// P10.6: whatever is drawn; a candidate has that distance.
func TestDistanceDrawn(t *testing.T) {
	r := drawer(3)
	for range 50000 {
		told, b := drawTold(r), drawBest(r)
		now := drawStamp(r, b.At)
		wantDistance(t, told, b, now, distanceOf(told, b, now))
		a := api.Assoc{Kind: r.IntN(12) - 1, Prefer: r.IntN(2) == 0, Pulse: r.IntN(2) == 0, Stratum: drawInt(r), Key: drawInt(r), Fudge: drawSpan(r)}
		want := api.Cand{ID: drawInt(r), Offset: b.Offset, Dist: distanceOf(told, b, now), Jitter: b.Jitter, Stratum: told.Stratum, Prefer: a.Prefer}
		if a.Kind == 6 {
			want.Stratum, want.Pulse = a.Stratum, a.Pulse
		}
		if got := peer.Candidate(want.ID, a, told, b, now); got != want {
			t.Fatalf("of %+v, %+v, %+v, %v the candidate is %+v, want %+v", a, told, b, now, got, want)
		}
	}
}

// P10.6: a candidate of each kind, with a pulse and without it, that is preferred, or not.
func TestCandidate(t *testing.T) {
	told := peer.Told{Leap: 1, Stratum: 9, Poll: 2, Precision: 3, Delay: 1 << 30, Disp: 1, RefID: 4, Ref: 5}
	b := api.Best{Offset: -6, Delay: 1 << 30, Disp: 2, Jitter: 4, At: second, New: true}
	for _, kind := range allKinds() {
		for _, pulse := range []bool{false, true} {
			for _, prefer := range []bool{false, true} {
				a := api.Assoc{Kind: kind, Addr: 7, Key: 8, MinPoll: 3, MaxPoll: 10, Burst: true, Iburst: true, Prefer: prefer, TTL: 9, Pulse: pulse, Fudge: 10, Stratum: 3}
				want := api.Cand{ID: 4, Offset: -6, Dist: 1<<30 + 7 + 64424, Jitter: 4, Stratum: 9, Prefer: prefer}
				if kind == api.KindClock {
					want.Stratum, want.Pulse = 3, pulse
				}
				if got := peer.Candidate(4, a, told, b, 2*second); got != want {
					t.Errorf("of %+v the candidate is %+v, want %+v", a, got, want)
				}
			}
		}
	}
	// The numbers are told as they are.
	for _, id := range []int{math.MinInt, -1, 0, 1, 16, 17, math.MaxInt} {
		for _, span := range []api.Span{math.MinInt64, -api.MaxSpan, 0, api.MaxSpan, math.MaxInt64} {
			want := api.Cand{ID: id, Offset: span, Dist: distanceOf(peer.Told{}, api.Best{Jitter: span}, 0), Jitter: span, Stratum: id}
			if got := peer.Candidate(id, api.Assoc{}, peer.Told{Stratum: id}, api.Best{Offset: span, Jitter: span}, 0); got != want {
				t.Errorf("the candidate is %+v, want %+v", got, want)
			}
			if got := peer.Candidate(id, api.Assoc{Kind: api.KindClock, Stratum: id}, peer.Told{Stratum: 5}, api.Best{Offset: span, Jitter: span}, 0); got != want {
				t.Errorf("the candidate is %+v, want %+v", got, want)
			}
		}
	}
}
