package peer_test

import (
	"math"
	"testing"

	"foliot/api"
	"foliot/peer"
)

// allKinds are the kinds, and numbers that are none.
func allKinds() []int {
	return []int{math.MinInt, -9, -1, 0, 1, 2, 3, 4, 5, 6, 7, 8, 9, 10, 11, 1 << 8, 1<<32 + 1, math.MaxInt}
}

// synced is a system whose fields are all different.
func synced() api.System {
	return api.System{
		Leap: api.LeapDelete, Stratum: 7, Poll: 9, Delay: 1000, Disp: 2000, RefID: 77, Ref: 5 * second,
		Offset: 3000, Jitter: 4000, Peer: 8, Freq: 6000,
	}
}

// P10.1: a new one has nothing, of whatever kind.
func TestNew(t *testing.T) {
	for _, kind := range allKinds() {
		p := peer.New(api.Assoc{Kind: kind, Addr: 1, Key: 2, MinPoll: 3, MaxPoll: 4, Burst: true, Iburst: true, Prefer: true, TTL: 5, Pulse: true, Fudge: 6, Stratum: 7}, own)
		if p.Waits() || p.Told() != (peer.Told{}) {
			t.Errorf("a new one of kind %v waits (%v) or was told %+v", kind, p.Waits(), p.Told())
		}
	}
	for _, x := range asking() {
		p := kindOf(t, x.kind)
		// An Xmt of 0 is none that came.
		p.want(right(x.mode, 3, 0), 9, true, api.VerdictLate)
		p.wantEcho(0, 0)
	}
	kindOf(t, api.KindListen).want(right(api.ModeBroadcast, 0, 0), 0, false, api.VerdictTaken)
	kindOf(t, api.KindListen).want(right(api.ModeBroadcast, 0, end), 0, false, api.VerdictTaken)
}

// P10.1: own is the address by which a loop is found, and nothing else of the association is.
func TestNewOwn(t *testing.T) {
	for _, own := range []uint32{0, 1, 33, 1<<32 - 1} {
		for _, ref := range []uint32{0, 1, 33, 1<<32 - 1} {
			p := peer.New(api.Assoc{Kind: api.KindServer, Addr: 33}, own)
			p.Request(api.System{}, 6, 7)
			q := right(api.ModeServer, 7, 20*second)
			q.RefID = ref
			want := api.VerdictTaken
			if ref == own {
				want = api.VerdictLoop
			}
			if v, _ := p.Hear(q, second, false); v != want {
				t.Errorf("own %v, RefID %v: the verdict is %v, want %v", own, ref, v, want)
			}
		}
	}
}

// P10.2: which kinds ask, and by which mode.
func TestAskModes(t *testing.T) {
	modes := map[int]int{
		api.KindServer: api.ModeClient, api.KindPool: api.ModeClient, api.KindManycast: api.ModeClient, api.KindFound: api.ModeClient,
		api.KindPeer: api.ModeActive, api.KindPassive: api.ModePassive, api.KindBroadcast: api.ModeBroadcast,
	}
	for _, kind := range allKinds() {
		p := kindOf(t, kind)
		q, is := p.ask(synced(), 6, 7)
		mode, asks := modes[kind]
		if is != asks || q.Mode != mode {
			t.Errorf("kind %v: %v, %v, want %v, %v", kind, q.Mode, is, mode, asks)
		}
		if !asks && !samePacket(q, api.Packet{}) {
			t.Errorf("kind %v does not ask, but sends %+v", kind, q)
		}
		p.wantWaits(asks && kind != api.KindBroadcast)
	}
}

// P10.2: every field of a request.
func TestRequestFields(t *testing.T) {
	for _, x := range asking() {
		p := kindOf(t, x.kind)
		q, is := p.ask(synced(), 6, 9*second)
		want := api.Packet{
			Leap: api.LeapDelete, Version: 4, Mode: q.Mode, Stratum: 7, Poll: 6, Precision: -20,
			Delay: 1000, Disp: 2000, RefID: 77, Ref: 5 * second, Xmt: 9 * second,
		}
		if !is || !samePacket(q, want) {
			t.Errorf("the request is %+v, want %+v", q, want)
		}
	}
}

// P10.2: a broadcast is sent unless the system's Leap is LeapAlarm, whatever its Stratum is; others are sent always.
func TestRequestLeap(t *testing.T) {
	for _, leap := range []int{math.MinInt, -1, 0, 1, 2, 3, 4, 7, math.MaxInt} {
		for _, stratum := range []int{0, 1, 15, 16} {
			s := synced()
			s.Leap, s.Stratum = leap, stratum
			p := kindOf(t, api.KindBroadcast)
			q, is := p.ask(s, 6, 7)
			if is != (leap != api.LeapAlarm) {
				t.Errorf("a broadcast with the leap %v is %v", leap, is)
			}
			if !is && !samePacket(q, api.Packet{}) {
				t.Errorf("what is not sent is %+v", q)
			}
			p.wantWaits(false)
			for _, x := range asking() {
				p := kindOf(t, x.kind)
				if q, is := p.ask(s, 6, 7); !is || q.Leap != leap {
					t.Errorf("a request with the leap %v is %+v, %v", leap, q, is)
				}
				p.wantWaits(true)
			}
		}
	}
}

// P10.2: what each of the numbers of a system becomes, of requests and of broadcasts.
func TestRequestNumbers(t *testing.T) {
	for _, kind := range []int{api.KindServer, api.KindPeer, api.KindPassive, api.KindBroadcast} {
		for _, x := range []struct{ stratum, want int }{
			{math.MinInt, 0}, {-1, 0}, {0, 0}, {1, 1}, {2, 2}, {14, 14}, {15, 15}, {16, 0}, {17, 0}, {255, 0}, {256, 0}, {257, 0}, {math.MaxInt, 0},
		} {
			s := synced()
			s.Stratum = x.stratum
			if q, _ := kindOf(t, kind).ask(s, 6, 7); q.Stratum != x.want {
				t.Errorf("kind %v, stratum %v: %v, want %v", kind, x.stratum, q.Stratum, x.want)
			}
		}
		for _, x := range []struct{ poll, want int }{
			{math.MinInt, -128}, {-129, -128}, {-128, -128}, {-127, -127}, {-1, -1}, {0, 0}, {6, 6}, {126, 126}, {127, 127}, {128, 127}, {256, 127}, {math.MaxInt, 127},
		} {
			if q, _ := kindOf(t, kind).ask(synced(), x.poll, 7); q.Poll != x.want {
				t.Errorf("kind %v, poll %v: %v, want %v", kind, x.poll, q.Poll, x.want)
			}
		}
		for _, x := range []struct{ span, want api.Span }{
			{math.MinInt64, 0}, {-api.MaxSpan, 0}, {-1, 0}, {0, 0}, {1, 1}, {second, second}, {longest - 1, longest - 1}, {longest, longest},
			{longest + 1, longest}, {1 << 48, longest}, {api.MaxSpan, longest}, {math.MaxInt64, longest},
		} {
			s := synced()
			s.Delay = x.span
			if q, _ := kindOf(t, kind).ask(s, 6, 7); q.Delay != x.want || q.Disp != 2000 {
				t.Errorf("kind %v, Delay %v: %v and %v, want %v", kind, x.span, q.Delay, q.Disp, x.want)
			}
			s = synced()
			s.Disp = x.span
			if q, _ := kindOf(t, kind).ask(s, 6, 7); q.Disp != x.want || q.Delay != 1000 {
				t.Errorf("kind %v, Disp %v: %v and %v, want %v", kind, x.span, q.Disp, q.Delay, x.want)
			}
		}
	}
}

// P10.2: a request is never of the Xmt 0; what answers it names the Xmt that was sent.
func TestRequestXmt(t *testing.T) {
	for _, x := range []struct{ xmt, want api.Stamp }{{0, 1}, {1, 1}, {2, 2}, {second, second}, {1 << 63, 1 << 63}, {end, end}} {
		if q, _ := kindOf(t, api.KindBroadcast).ask(synced(), 6, x.xmt); q.Xmt != x.want {
			t.Errorf("a broadcast at %v has the Xmt %v, want %v", x.xmt, q.Xmt, x.want)
		}
		for _, a := range asking() {
			p := kindOf(t, a.kind)
			if q, _ := p.ask(synced(), 6, x.xmt); q.Xmt != x.want {
				t.Errorf("a request at %v has the Xmt %v, want %v", x.xmt, q.Xmt, x.want)
			}
			p.want(right(a.mode, x.want+1, 20*second), 2, false, api.VerdictBogus)
			p.want(right(a.mode, x.want-1, 20*second), 2, false, api.VerdictBogus)
			p.want(right(a.mode, x.want, 20*second), 2, false, api.VerdictTaken)
		}
	}
}

// P10.2: Org and Rec are the last packet's that was taken, in every request that follows.
func TestRequestEcho(t *testing.T) {
	for _, x := range asking() {
		p := kindOf(t, x.kind)
		p.wantEcho(0, 0)
		p.wantEcho(0, 0)
		p.want(right(x.mode, 1<<40, 20*second), 3*second, false, api.VerdictTaken)
		p.wantEcho(20*second, 3*second)
		p.wantEcho(20*second, 3*second)
		p.want(right(x.mode, 1<<40, 10*second), 2*second, false, api.VerdictTaken)
		p.wantEcho(10*second, 2*second)
		p.clear()
		p.wantEcho(0, 0)
	}
}

// P10.2: the request is the one that was sent last; a broadcast, and what is not sent, makes none.
func TestRequestIsTheLast(t *testing.T) {
	for _, x := range asking() {
		p := kindOf(t, x.kind)
		for _, xmt := range []api.Stamp{7, 9, 8} {
			p.ask(synced(), 6, xmt)
			p.wantWaits(true)
		}
		p.want(right(x.mode, 7, 20*second), 2, false, api.VerdictBogus)
		p.want(right(x.mode, 9, 20*second), 2, false, api.VerdictBogus)
		p.want(right(x.mode, 8, 20*second), 2, false, api.VerdictTaken)
		p.wantWaits(false)
		p.ask(synced(), 6, 7)
		p.wantWaits(true)
		p.want(right(x.mode, 8, 21*second), 2, false, api.VerdictBogus)
		p.want(right(x.mode, 7, 21*second), 2, false, api.VerdictTaken)
	}
	for _, kind := range []int{api.KindBroadcast, api.KindListen, api.KindClock, 0, 10} {
		p := kindOf(t, kind)
		p.ask(synced(), 6, 7)
		p.ask(api.System{Leap: api.LeapAlarm}, 6, 7)
		p.wantWaits(false)
		p.wantTold(peer.Told{})
	}
}

// P10.1: behind Clear there is no request, no echo, nothing that was told; but what came stays.
func TestClear(t *testing.T) {
	for _, x := range asking() {
		p := kindOf(t, x.kind)
		p.clear()
		p.ask(synced(), 6, 7)
		p.clear()
		p.wantWaits(false)
		p.want(right(x.mode, 7, 20*second), 2, false, api.VerdictLate)
		p.ask(synced(), 6, 7)
		p.want(right(x.mode, 7, 20*second), 2, false, api.VerdictTaken)
		p.wantTold(toldOf(20 * second))
		p.ask(synced(), 6, 8)
		p.clear()
		p.clear()
		p.wantWaits(false)
		p.wantTold(peer.Told{})
		p.wantLast(x.mode, 20*second)
		p.wantEcho(0, 0)
		p.want(right(x.mode, 1<<40, 20*second), 2, false, api.VerdictDup)
		p.want(right(x.mode, 1<<40, 21*second), 2, false, api.VerdictTaken)
		p.wantLast(x.mode, 21*second)
	}
	p := kindOf(t, api.KindListen)
	p.want(right(api.ModeBroadcast, 0, 20*second), 2, false, api.VerdictTaken)
	p.wantTold(toldOf(20 * second))
	p.clear()
	p.wantTold(peer.Told{})
	p.want(right(api.ModeBroadcast, 0, 20*second-1), 2, false, api.VerdictDup)
	p.want(right(api.ModeBroadcast, 0, 20*second), 2, false, api.VerdictDup)
	p.want(right(api.ModeBroadcast, 0, 20*second+1), 2, false, api.VerdictTaken)
}

// P10.1: Waits and Told change nothing.
func TestAskedTwice(t *testing.T) {
	p := kindOf(t, api.KindServer)
	p.ask(synced(), 6, 7)
	for range 3 {
		p.wantWaits(true)
		p.wantTold(peer.Told{})
	}
	p.want(right(api.ModeServer, 7, 20*second), 2, false, api.VerdictTaken)
	for range 3 {
		p.wantWaits(false)
		p.wantTold(toldOf(20 * second))
	}
}
