package system_test

import (
	"testing"

	"foliot/api"
	"foliot/system"
)

// P17.4: of an orphan stratum from 1 to 15 the system is a root of its own; else nothing changes.
func TestOrphan(t *testing.T) {
	for _, orphan := range numbers {
		for _, y := range []api.System{{}, system.New(api.Config{Orphan: orphan}), plain()} {
			c, now := api.Config{Orphan: orphan, Stepout: 9}, 9*s
			got := system.Orphan(y, c, now)
			if orphan < 1 || orphan > 15 {
				if got != y {
					t.Errorf("of the stratum %d it is %+v, not %+v", orphan, got, y)
				}
				continue
			}
			if got.Leap != 0 || got.Stratum != orphan || got.RefID != 0x7f000001 || got.Delay != 0 || got.Disp != second/1024 || got.Ref != now || got.Peer != 0 {
				t.Errorf("of the stratum %d it is %+v", orphan, got)
			}
			if !system.Synced(got) || system.Distance(got, now) != second/1024 {
				t.Errorf("of the stratum %d it is not synchronised, or far: %+v", orphan, got)
			}
		}
	}
}

// P17.4: an orphan keeps poll exponent, offset, jitter and rate, and who is lost also delay, dispersion and when it was set.
func TestWhatStays(t *testing.T) {
	y := api.System{Leap: 2, Stratum: 9, Poll: 8, Delay: 99, Disp: 98, RefID: 97, Ref: 96, Offset: -95, Jitter: 94, Peer: 93, Freq: 92}
	want := api.System{Leap: 0, Stratum: 15, Poll: 8, Delay: 0, Disp: 4194304, RefID: 2130706433, Ref: 7, Offset: -95, Jitter: 94, Peer: 0, Freq: 92}
	if got := system.Orphan(y, api.Config{Orphan: 15}, 7); got != want {
		t.Errorf("Orphan is %+v, not %+v", got, want)
	}
	want = api.System{Leap: 3, Stratum: 16, Poll: 8, Delay: 99, Disp: 98, RefID: 0, Ref: 96, Offset: -95, Jitter: 94, Peer: 0, Freq: 92}
	if got := system.Lose(y); got != want {
		t.Errorf("Lose is %+v, not %+v", got, want)
	}
}

// P17.4: drawn systems; nothing in the configuration but Orphan counts, and who is lost is not synchronised, nor more lost by losing it again.
func TestOrphanDrawn(t *testing.T) {
	r := drawer(3)
	for range 5000 {
		y, now := drawSystem(r), drawStamp(r)
		c := api.Config{Orphan: drawNumber(r), Listen: r.IntN(2) == 0, Step: drawSpan(r), Stats: []string{"loop"}}
		holdOrphan(t, y, c, now)
		l := system.Lose(y)
		if system.Synced(l) || system.Lose(l) != l {
			t.Fatalf("of %+v it is %+v", y, l)
		}
	}
}
