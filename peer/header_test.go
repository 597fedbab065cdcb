package peer_test

import (
	"cmp"
	"math"
	"testing"

	"foliot/api"
	"foliot/peer"
)

func wantHeader(t *testing.T, q api.Packet, want int) {
	t.Helper()
	if got := peer.Header(q, own); got != want {
		t.Errorf("Header of %+v is %v, want %v", q, got, want)
	}
	if got := headerOf(q, own); got != want {
		t.Errorf("by the promise it is %v", got)
	}
}

// P10.5: the chapter's examples, and a right one.
func TestHeaderExamples(t *testing.T) {
	wantHeader(t, right(api.ModeServer, 7, 20*second), 0)
	wantHeader(t, api.Packet{Stratum: 16}, api.VerdictAlarm)
	wantHeader(t, api.Packet{Stratum: 2, RefID: own}, api.VerdictLoop)
	wantHeader(t, api.Packet{Stratum: 1, Delay: 40 * second}, api.VerdictFar)
	wantHeader(t, api.Packet{Stratum: 1}, 0)
	wantHeader(t, api.Packet{}, api.VerdictAlarm)
}

// P10.5: each Leap, each Stratum, and numbers that are none.
func TestHeaderAlarm(t *testing.T) {
	for _, leap := range []int{math.MinInt, -1, 0, 1, 2, 3, 4, math.MaxInt} {
		for _, stratum := range []int{math.MinInt, -1, 0, 1, 2, 8, 14, 15, 16, 17, 255, 256, 257, math.MaxInt} {
			q := right(api.ModeServer, 7, 20*second)
			q.Leap, q.Stratum = leap, stratum
			want := 0
			if leap == 3 || stratum < 1 || stratum > 15 {
				want = api.VerdictAlarm
			}
			wantHeader(t, q, want)
			// Whatever else is wrong.
			q.Delay, q.RefID = -1, own
			wantHeader(t, q, cmp.Or(want, api.VerdictHeader))
		}
	}
}

// P10.5: Delay and Disp below 0, each alone.
func TestHeaderBelow(t *testing.T) {
	for _, d := range []api.Span{-1, -2, -second, -api.MaxSpan, -api.MaxSpan - 1, math.MinInt64} {
		for _, other := range []api.Span{0, 1, second, 40 * second, api.MaxSpan, math.MaxInt64, -1} {
			wantHeader(t, api.Packet{Stratum: 1, Delay: d, Disp: other}, api.VerdictHeader)
			wantHeader(t, api.Packet{Stratum: 1, Delay: other, Disp: d}, api.VerdictHeader)
		}
	}
}

// P10.5: Ref behind Xmt, at it, ahead of it, by the nearer way round an era.
func TestHeaderRef(t *testing.T) {
	for _, xmt := range []api.Stamp{0, 1, second, 1 << 63, end} {
		for _, x := range []struct {
			ahead api.Stamp // of Ref ahead of Xmt
			want  int
		}{
			{0, 0}, {1, 0}, {second, 0}, {1 << 62, 0}, {1<<62 + 1, 0}, {1<<63 - 1, 0},
			{1 << 63, api.VerdictHeader}, {1<<63 + 1, api.VerdictHeader}, {3 << 62, api.VerdictHeader}, {end - second, api.VerdictHeader}, {end, api.VerdictHeader},
		} {
			wantHeader(t, api.Packet{Stratum: 1, Xmt: xmt, Ref: xmt - x.ahead}, x.want)
			// It counts ahead of a root that is far, and of a loop.
			wantHeader(t, api.Packet{Stratum: 2, RefID: own, Disp: 17 * second, Xmt: xmt, Ref: xmt - x.ahead}, cmp.Or(x.want, api.VerdictFar))
		}
	}
}

// P10.5: how far the root may be: 16 seconds at most, half of an odd Delay divided down.
func TestHeaderFar(t *testing.T) {
	const s = second
	for _, x := range []struct {
		delay, disp api.Span
		want        int
	}{
		{0, 16 * s, 0},
		{0, 16*s - 1, 0},
		{0, 16*s + 1, api.VerdictFar},
		{1, 16 * s, 0},
		{2, 16 * s, api.VerdictFar},
		{3, 16*s - 1, 0},
		{4, 16*s - 1, api.VerdictFar},
		{32 * s, 0, 0},
		{32*s + 1, 0, 0},
		{32*s + 2, 0, api.VerdictFar},
		{32*s - 1, 1, 0},
		{32 * s, 1, api.VerdictFar},
		{32*s - 2, 1, 0},
		{16 * s, 8 * s, 0},
		{16 * s, 8*s + 1, api.VerdictFar},
		{40 * s, 0, api.VerdictFar},
		{longest, 0, api.VerdictFar},
		{0, longest, api.VerdictFar},
		{longest, longest, api.VerdictFar},
		{api.MaxSpan, 0, api.VerdictFar},
		{0, api.MaxSpan, api.VerdictFar},
		{api.MaxSpan, api.MaxSpan, api.VerdictFar},
		{math.MaxInt64, 0, api.VerdictFar},
		{0, math.MaxInt64, api.VerdictFar},
		{math.MaxInt64, math.MaxInt64, api.VerdictFar},
		{math.MaxInt64, api.MaxSpan, api.VerdictFar},
	} {
		wantHeader(t, api.Packet{Stratum: 1, Delay: x.delay, Disp: x.disp}, x.want)
		// A loop is found only behind it.
		wantHeader(t, api.Packet{Stratum: 2, RefID: own, Delay: x.delay, Disp: x.disp}, cmp.Or(x.want, api.VerdictLoop))
	}
}

// P10.5: a loop is one above the Stratum 1 whose RefID is our address, whatever that is.
func TestHeaderLoop(t *testing.T) {
	for stratum := 1; stratum <= 15; stratum++ {
		for _, mine := range []uint32{0, 1, own, 1<<32 - 1} {
			for _, ref := range []uint32{0, 1, own, 1<<32 - 1} {
				want := 0
				if stratum > 1 && ref == mine {
					want = api.VerdictLoop
				}
				if got := peer.Header(api.Packet{Stratum: stratum, RefID: ref}, mine); got != want {
					t.Errorf("Stratum %v, RefID %v, own %v: %v, want %v", stratum, ref, mine, got, want)
				}
			}
		}
	}
}

// P10.5: neither the mode nor any other time counts.
func TestHeaderLooksAtNothingElse(t *testing.T) {
	for _, mode := range []int{-1, 0, 1, 3, 4, 5, 6, 99} {
		for _, at := range []api.Stamp{0, 1, 19 * second, 1 << 63, end} {
			q := right(mode, at, 20*second)
			q.Rec, q.Version, q.Poll, q.Precision, q.KeyID, q.Nak = at, mode, mode, mode, mode, true
			wantHeader(t, q, 0)
		}
	}
}

// P10.5: headers that are drawn, most of them wrong in some way.
func TestHeaderDrawn(t *testing.T) {
	r := drawer(2)
	var seen [11]int
	for range 200000 {
		q := drawPacket(r, 7)
		got := peer.Header(q, own)
		if want := headerOf(q, own); got != want {
			t.Fatalf("Header of %+v is %v, want %v", q, got, want)
		}
		seen[got]++
	}
	for _, v := range []int{0, api.VerdictAlarm, api.VerdictHeader, api.VerdictFar, api.VerdictLoop} {
		if seen[v] < 100 {
			t.Errorf("the verdict %v was drawn %v times alone", v, seen[v])
		}
	}
}
