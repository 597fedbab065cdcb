package system_test

import (
	"testing"

	"foliot/api"
	"foliot/system"
)

// full is how long it takes a Disp of 0 to become 16 seconds: the least d with 4222124650 * d / 2^48 at least 2^36, which a quotient of 64 bits tells: 2^84 / 4222124650 rounded up.
const full = (1<<84 + 4222124650 - 1) / 4222124650

// P17.2: Disp grows by fifteen millionths, and only as now lies behind Ref.
func TestAge(t *testing.T) {
	for _, x := range []struct {
		disp, want api.Span
		gone       int64
	}{
		{1000, 1000, 0},
		{1000, 1000, 66666}, {1000, 1001, 66667},
		{1000, 1000 + 64424, int64(second)},
		{1000, 1000 + 644245, int64(10 * second)},
		{0, 65970697, int64(1024 * second)},
		{0, sixteen - 1, full - 1}, {0, sixteen, full}, {0, sixteen, full + 1}, {1, sixteen, full - 1},
		{0, sixteen, int64(most)}, {0, sixteen, int64(most) + 1}, {0, sixteen, int64(top)},
		{1000, 1000, -1}, {1000, 1000, -int64(second)}, {1000, 1000, int64(lowest)},
		{1000, 1000, int64(lowest) + 1},
	} {
		for _, ref := range stamps {
			y := but(plain(), func(y *api.System) { y.Disp, y.Ref = x.disp, ref })
			now := ref + api.Stamp(x.gone)
			want := but(y, func(y *api.System) { y.Disp = x.want })
			if got := system.Age(y, now); got != want {
				t.Errorf("%d behind Ref, Age is %+v, not %+v", x.gone, got, want)
			}
			holdAge(t, y, now)
		}
	}
}

// P17.2: Disp is cut to 0 and to 16 seconds behind the sum, not ahead of it.
func TestAgeDisp(t *testing.T) {
	for _, x := range []struct {
		disp, at, later api.Span // at Ref, a second behind it, by which 64424 come to it
	}{
		{lowest, 0, 0}, {-most - 1, 0, 0}, {-most, 0, 0}, {-64425, 0, 0}, {-64424, 0, 0}, {-64423, 0, 1}, {-1, 0, 64423},
		{0, 0, 64424}, {1, 1, 64425}, {sixteen - 64425, sixteen - 64425, sixteen - 1}, {sixteen - 64424, sixteen - 64424, sixteen},
		{sixteen - 64423, sixteen - 64423, sixteen}, {sixteen - 1, sixteen - 1, sixteen}, {sixteen, sixteen, sixteen},
		{sixteen + 1, sixteen, sixteen}, {most, sixteen, sixteen}, {most + 1, sixteen, sixteen}, {top, sixteen, sixteen},
	} {
		y := but(plain(), func(y *api.System) { y.Disp = x.disp })
		if at, later := system.Age(y, y.Ref).Disp, system.Age(y, y.Ref+s).Disp; at != x.at || later != x.later {
			t.Errorf("of the Disp %d it is %d at Ref, %d later, not %d and %d", x.disp, at, later, x.at, x.later)
		}
		holdAge(t, y, y.Ref)
		holdAge(t, y, y.Ref+s)
		holdAge(t, y, y.Ref-s)
	}
}

// P17.2: nothing but Disp changes, whatever else there is; and it ages by Ref, so that asking twice adds twice.
func TestAgeElse(t *testing.T) {
	r := drawer(1)
	for range 2000 {
		y, now := drawSystem(r), drawStamp(r)
		got := system.Age(y, now)
		got.Disp = y.Disp
		if got != y {
			t.Fatalf("of %+v it is %+v", y, got)
		}
	}
	y := plain()
	if d := system.Age(system.Age(y, y.Ref+s), y.Ref+s).Disp; d != 1000+2*64424 {
		t.Errorf("aged twice, Disp is %d", d)
	}
}

// P17.2: the distance is half of the delay, divided down, and Age's Disp.
func TestDistance(t *testing.T) {
	for _, x := range []struct{ delay, half api.Span }{
		{0, 0}, {1, 0}, {2, 1}, {3, 1}, {4, 2}, {-1, -1}, {-2, -1}, {-3, -2}, {-2000, -1000}, {-2001, -1001},
		{sixteen, sixteen / 2}, {sixteen + 3, sixteen/2 + 1}, {most, most / 2}, {top, most - 1}, {top - 1, most - 1}, {-most, -most / 2},
		{lowest, -most}, {lowest + 1, -most},
	} {
		for _, gone := range []api.Stamp{0, s, full, last} {
			y := but(plain(), func(y *api.System) { y.Delay = x.delay })
			now := y.Ref + gone
			want := min(x.half+system.Age(y, now).Disp, most)
			if got := system.Distance(y, now); got != want {
				t.Errorf("of the delay %d, the disp %d it is %d, not %d", x.delay, y.Disp, got, want)
			}
			holdAge(t, y, now)
		}
	}
	for _, delay := range spans {
		for _, disp := range spans {
			y := but(plain(), func(y *api.System) { y.Delay, y.Disp = delay, disp })
			holdAge(t, y, y.Ref)
			holdAge(t, y, y.Ref+1024*s)
		}
	}
}

// P17.2: who is synchronised, by each leap and each stratum.
func TestSynced(t *testing.T) {
	for leap := range 4 {
		for stratum := -1; stratum <= 17; stratum++ {
			y := but(plain(), func(y *api.System) { y.Leap, y.Stratum = leap, stratum })
			want := leap != 3 && stratum >= 1 && stratum <= 15
			if got := system.Synced(y); got != want {
				t.Errorf("of the leap %d, the stratum %d it is %t", leap, stratum, got)
			}
		}
	}
	for _, leap := range numbers {
		for _, stratum := range numbers {
			holdAge(t, but(plain(), func(y *api.System) { y.Leap, y.Stratum = leap, stratum }), 9*s)
		}
	}
	// Nothing else counts.
	for _, y := range []api.System{{Stratum: 1}, {Leap: 1, Stratum: 15, Delay: top, Disp: top, Peer: -1}} {
		if !system.Synced(y) {
			t.Errorf("%+v is not synchronised", y)
		}
	}
}
