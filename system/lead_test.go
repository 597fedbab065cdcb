package system_test

import (
	"testing"

	"foliot/api"
	"foliot/system"
)

func someLead() system.Lead {
	return system.Lead{
		Peer: 4, Leap: api.LeapInsert, Stratum: 2, Delay: 1000, Disp: 200, RefID: 77,
		Best:   api.Best{Offset: 11, Delay: 30000, Disp: 4000, Jitter: 13, At: 17, New: true},
		Offset: -50000, Jitter: 600000,
	}
}

// lead is someLead, changed.
func lead(f func(l *system.Lead)) system.Lead {
	l := someLead()
	f(&l)
	return l
}

// P17.3: each field, and nothing of the former system.
func TestFollow(t *testing.T) {
	want := api.System{Leap: 1, Stratum: 3, Poll: 6, Delay: 31000, Disp: 654200, RefID: 77, Ref: 9 * s, Offset: -50000, Jitter: 600000, Peer: 4, Freq: -8}
	full := api.System{Leap: 2, Stratum: 9, Poll: 9, Delay: 99, Disp: 98, RefID: 97, Ref: 96, Offset: 95, Jitter: 94, Peer: 93, Freq: 92}
	for _, y := range []api.System{{}, system.New(api.Config{}), plain(), full} {
		if got := system.Follow(y, someLead(), -8, 6, 9*s); got != want {
			t.Errorf("behind %+v it is %+v, not %+v", y, got, want)
		}
	}
	// A lead that says nothing leaves nothing.
	if got := system.Follow(full, system.Lead{}, 0, 0, 0); got != (api.System{Stratum: 1, Poll: 3}) {
		t.Errorf("of an empty lead it is %+v", got)
	}
}

// P17.3: drawn systems ahead of it, which leave no trace.
func TestFollowForgets(t *testing.T) {
	r := drawer(2)
	for range 2000 {
		a, b, l := drawSystem(r), drawSystem(r), drawLead(r)
		f, poll, now := api.Freq(drawSpan(r)), drawNumber(r), drawStamp(r)
		if x, y := system.Follow(a, l, f, poll, now), system.Follow(b, l, f, poll, now); x != y {
			t.Fatalf("behind %+v it is %+v, behind %+v %+v", a, x, b, y)
		}
	}
}

// P17.3: the stratum is one more, inside 16.
func TestFollowStratum(t *testing.T) {
	for _, x := range []struct{ stratum, want int }{
		{least, 0}, {least + 1, 0}, {-17, 0}, {-2, 0}, {-1, 0}, {0, 1}, {1, 2}, {2, 3}, {13, 14}, {14, 15}, {15, 16}, {16, 16}, {17, 16},
		{255, 16}, {1 << 32, 16}, {greatest - 1, 16}, {greatest, 16},
	} {
		l := lead(func(l *system.Lead) { l.Stratum = x.stratum })
		if got := system.Follow(plain(), l, 5, 6, 7).Stratum; got != x.want {
			t.Errorf("of the stratum %d it is %d, not %d", x.stratum, got, x.want)
		}
		holdFollow(t, plain(), l, 5, 6, 7)
	}
}

// P17.3: the poll exponent is at least MinPoll, at most MaxPoll.
func TestFollowPoll(t *testing.T) {
	for _, x := range []struct{ poll, want int }{
		{least, 3}, {-1, 3}, {0, 3}, {2, 3}, {3, 3}, {4, 4}, {9, 9}, {10, 10}, {11, 10}, {17, 10}, {greatest, 10},
	} {
		if got := system.Follow(plain(), someLead(), 5, x.poll, 7).Poll; got != x.want {
			t.Errorf("of the poll %d it is %d, not %d", x.poll, got, x.want)
		}
		holdFollow(t, plain(), someLead(), 5, x.poll, 7)
	}
}

// P17.3: the delay is the lead's and its best sample's, saturated, then inside 16 seconds.
func TestFollowDelay(t *testing.T) {
	for _, x := range []struct{ root, best, want api.Span }{
		{0, 0, 0}, {1, 2, 3}, {-1, 0, 0}, {0, -1, 0}, {-5, 5, 0}, {-5, 6, 1}, {6, -5, 1}, {-5, 4, 0},
		{sixteen, 0, sixteen}, {0, sixteen, sixteen}, {sixteen - 1, 0, sixteen - 1}, {sixteen, -1, sixteen - 1}, {sixteen, 1, sixteen},
		{sixteen + 1, 0, sixteen}, {8 * second, 8 * second, sixteen}, {8 * second, 8*second - 1, sixteen - 1},
		{sixteen + 9, -9, sixteen}, {most, -most + 7, 7}, {-most, most, 0},
		{top, top, sixteen}, {lowest, lowest, 0}, {top, lowest, 0}, {top, -top, 0}, {most, most, sixteen},
		{lowest, top, 0}, {top, -top + 5, 5}, {-top + 5, top, 5},
	} {
		l := lead(func(l *system.Lead) { l.Delay, l.Best.Delay = x.root, x.best })
		if got := system.Follow(plain(), l, 5, 6, 7).Delay; got != x.want {
			t.Errorf("of the delays %d and %d it is %d, not %d", x.root, x.best, got, x.want)
		}
	}
	for _, root := range spans {
		for _, best := range spans {
			holdFollow(t, plain(), lead(func(l *system.Lead) { l.Delay, l.Best.Delay = root, best }), 5, 6, 7)
		}
	}
}

// P17.3: the dispersion is summed one behind the other, saturated at each step, then inside 16 seconds.
func TestFollowDisp(t *testing.T) {
	for _, x := range []struct{ root, best, offset, jitter, want api.Span }{
		{0, 0, 0, 0, 0}, {1, 20, 300, 4000, 4321}, {1, 20, -300, 4000, 4321},
		{-1, 0, 0, 0, 0}, {-1, 0, 1, 0, 0}, {-1, 0, -2, 0, 1}, {-9, -9, -9, -9, 0}, {0, 0, -9, -9, 0}, {0, 0, -9, -8, 1},
		{sixteen, 0, 0, 0, sixteen}, {sixteen - 1, 0, 0, 0, sixteen - 1}, {sixteen + 1, 0, 0, 0, sixteen}, {sixteen, 5, 0, -6, sixteen - 1},
		{0, sixteen, 0, 0, sixteen}, {0, 0, -sixteen, 0, sixteen}, {0, 0, 1 - sixteen, 0, sixteen - 1}, {0, 0, 0, sixteen + 1, sixteen},
		// The sums saturate on the way, in that order.
		{most, most, 0, -most, 0}, {most, most, 5, 9 - most, 9}, {-most, -most, most, 7, 7}, {-most, -most, -most, 7, 7},
		{most, 1, lowest, 3 - most, 3}, {0, 0, lowest, 1 - most, 1}, {0, 0, lowest, 0, sixteen}, {0, 0, -top, 2 - most, 2}, {0, 0, top, 2 - most, 2},
		{lowest, 0, lowest, 4, 4}, {lowest, lowest, top, top, sixteen}, {top, top, top, lowest, 0}, {top, -top, 6, 0, 6}, {-most, 1, most, 0, 1},
		{-most, -1, most, 1, 1},
	} {
		l := lead(func(l *system.Lead) { l.Disp, l.Best.Disp, l.Offset, l.Jitter = x.root, x.best, x.offset, x.jitter })
		if got := system.Follow(plain(), l, 5, 6, 7).Disp; got != x.want {
			t.Errorf("of %+v it is %d", x, got)
		}
		holdFollow(t, plain(), l, 5, 6, 7)
	}
	few := []api.Span{lowest, -most, -sixteen, -1, 0, 1, sixteen, most, top}
	for _, root := range few {
		for _, best := range few {
			for _, offset := range few {
				for _, jitter := range few {
					holdFollow(t, plain(), lead(func(l *system.Lead) { l.Disp, l.Best.Disp, l.Offset, l.Jitter = root, best, offset, jitter }), 5, 6, 7)
				}
			}
		}
	}
}

// P17.3: what is handed on is not cut: leap, RefID, Peer, Offset, Jitter, the rate and the time.
func TestFollowHandsOn(t *testing.T) {
	for _, n := range numbers {
		l := lead(func(l *system.Lead) { l.Peer, l.Leap = n, n })
		if got := system.Follow(plain(), l, 5, 6, 7); got.Peer != n || got.Leap != n {
			t.Errorf("of the number and leap %d it is %+v", n, got)
		}
	}
	for _, d := range spans {
		l := lead(func(l *system.Lead) { l.Offset, l.Jitter = d, -d })
		if got := system.Follow(plain(), l, api.Freq(d), 6, 7); got.Offset != d || got.Jitter != -d || got.Freq != api.Freq(d) {
			t.Errorf("of the span %d it is %+v", d, got)
		}
	}
	for _, at := range stamps {
		l := lead(func(l *system.Lead) { l.RefID = uint32(at) })
		if got := system.Follow(plain(), l, 5, 6, at); got.Ref != at || got.RefID != uint32(at) {
			t.Errorf("at %d it is %+v", at, got)
		}
	}
	// Of the best sample neither Offset nor Jitter, At nor New count.
	l := lead(func(l *system.Lead) { l.Best.Offset, l.Best.Jitter, l.Best.At, l.Best.New = top, top, last, false })
	if a, b := system.Follow(plain(), l, 5, 6, 7), system.Follow(plain(), someLead(), 5, 6, 7); a != b {
		t.Errorf("it is %+v, not %+v", a, b)
	}
}
