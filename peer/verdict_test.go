package peer_test

import (
	"math"
	"testing"

	"foliot/api"
	"foliot/peer"
)

// P10.2, P10.3: the chapter's examples.
func TestExamples(t *testing.T) {
	p := kindOf(t, api.KindServer)
	if q, is := p.ask(synced(), 6, 7); !is || q.Mode != api.ModeClient || q.Xmt != 7 || q.Org != 0 || !p.p.Waits() {
		t.Errorf("the request is %+v, %v", q, is)
	}
	q := api.Packet{Mode: api.ModeServer, Org: 8, Stratum: 2, Xmt: 20 * second, Ref: 19 * second, Rec: 20 * second}
	p.want(q, second, false, api.VerdictBogus)
	q.Mode = api.ModeActive
	p.want(q, second, false, api.VerdictMode)
	q.Mode, q.Org = api.ModeServer, 7
	p.want(q, second, false, api.VerdictTaken)
	p.want(q, second, false, api.VerdictDup)
	q.Xmt = 21 * second
	p.want(q, second, false, api.VerdictLate)
}

// P10.3: which kinds are answered by which modes, and that nothing changes, where they are not.
func TestAnswerModes(t *testing.T) {
	answers := map[[2]int]bool{
		{api.KindServer, api.ModeServer}: true, {api.KindPool, api.ModeServer}: true, {api.KindManycast, api.ModeServer}: true, {api.KindFound, api.ModeServer}: true,
		{api.KindPeer, api.ModeActive}: true, {api.KindPeer, api.ModePassive}: true, {api.KindPassive, api.ModeActive}: true, {api.KindListen, api.ModeBroadcast}: true,
	}
	for _, kind := range allKinds() {
		for _, mode := range []int{math.MinInt, -64, -60, -1, 0, 1, 2, 3, 4, 5, 6, 7, 8, 31, 32, 36, 63, 64, 65, 66, 67, 68, 69, 127, 128, 1<<32 + 4, 1<<63 - 60, math.MaxInt} {
			p := kindOf(t, kind)
			p.ask(synced(), 6, 7)
			waits := p.p.Waits()
			v, sample := p.hear(right(mode, 7, 20*second), second, true)
			if answers[[2]int{kind, mode}] {
				if v != api.VerdictTaken {
					t.Errorf("kind %v, mode %v: %v", kind, mode, v)
				}
				continue
			}
			if v != api.VerdictMode || sample != (api.Sample{}) {
				t.Errorf("kind %v, mode %v: %v, %+v", kind, mode, v, sample)
			}
			p.wantWaits(waits)
			p.wantTold(peer.Told{})
		}
	}
}

// P10.3: the version, what stands behind the header and fields that are none are not looked at.
func TestHearLooksAtNothingElse(t *testing.T) {
	for _, version := range []int{math.MinInt, -1, 0, 1, 3, 4, 5, 8} {
		p := kindOf(t, api.KindServer)
		p.ask(synced(), 6, 7)
		q := right(api.ModeServer, 7, 20*second)
		q.Version, q.KeyID, q.Nak, q.MAC = version, -4, true, []byte{1}
		q.Exts = []api.Ext{{Type: -1, Data: []byte{2}}}
		q.Poll, q.Precision, q.Leap = math.MaxInt, math.MinInt, -5
		p.want(q, second, false, api.VerdictTaken)
		p.wantTold(peer.Told{Leap: -5, Stratum: 2, Poll: math.MaxInt, Precision: math.MinInt, Delay: 700, Disp: 800, RefID: 33, Ref: 18 * second})
	}
}

// spoilt are ways in which a right packet fails, each by the verdict of its place; those of them whose bit is set come together.
func spoilt(q api.Packet, bits int) api.Packet {
	has := func(verdict int) bool { return bits>>verdict&1 == 1 }
	if has(api.VerdictMode) {
		q.Mode = api.ModeClient
	}
	if has(api.VerdictDup) {
		q.Xmt = 20 * second
	}
	if has(api.VerdictBogus) {
		q.Org++
	}
	if has(api.VerdictLoop) {
		q.RefID = own
	}
	if has(api.VerdictFar) {
		q.Delay = 40 * second
	}
	if has(api.VerdictHeader) {
		q.Disp = -1
	}
	if has(api.VerdictAlarm) {
		q.Leap = api.LeapAlarm
	}
	if has(api.VerdictKiss) {
		q.Leap, q.Stratum = api.LeapAlarm, 0
	}
	return q
}

// firstBit is the least verdict whose bit is set; 0, if none is.
func firstBit(bits int) int {
	for v := 1; v <= 10; v++ {
		if bits>>v&1 == 1 {
			return v
		}
	}
	return 0
}

// checkAfter says what each verdict leaves as it was, and what it changes, behind a packet of 20 s, heard at 3 s, and a request, of one of 30 s, heard at 9 s.
func (p *pair) checkAfter(mode, verdict int, waited, asks bool) {
	p.t.Helper()
	told, last, echo, at := toldOf(20*second), api.Stamp(20*second), api.Stamp(20*second), api.Stamp(3*second)
	switch verdict {
	case api.VerdictKiss:
		last = 30 * second
	case api.VerdictTaken:
		told, last, echo, at = toldOf(30*second), 30*second, 30*second, 9*second
	}
	p.wantWaits(waited && verdict >= api.VerdictMode && verdict <= api.VerdictAuth)
	p.wantTold(told)
	p.wantLast(mode, last)
	if asks {
		p.wantEcho(echo, at)
	}
}

// P10.3: all packets that several tests refuse, by all sets of these tests: the first one counts; and what the verdict changes.
func TestVerdictOrder(t *testing.T) {
	for bits := range 1 << 11 {
		if bits&1 == 1 {
			continue
		}
		for _, x := range asking() {
			for _, key := range []int{0, 5} {
				if key == 0 && bits>>api.VerdictAuth&1 == 1 {
					continue
				}
				p := pairOf(t, api.Assoc{Kind: x.kind, Key: key})
				p.ask(synced(), 6, 7)
				p.want(right(x.mode, 7, 20*second), 3*second, true, api.VerdictTaken)
				waited := bits>>api.VerdictLate&1 == 0
				if waited {
					p.ask(synced(), 6, 8)
				}
				q := spoilt(right(x.mode, 8, 30*second), bits)
				p.want(q, 9*second, bits>>api.VerdictAuth&1 == 0, firstBit(bits))
				p.checkAfter(x.mode, firstBit(bits), waited, true)
			}
		}
		// Broadcasts are neither late nor bogus.
		if bits>>api.VerdictLate&3 == 0 {
			p := keyed(t, api.KindListen)
			p.want(right(api.ModeBroadcast, 0, 20*second), 3*second, true, api.VerdictTaken)
			q := spoilt(right(api.ModeBroadcast, 8, 30*second), bits)
			p.want(q, 9*second, bits>>api.VerdictAuth&1 == 0, firstBit(bits))
			p.checkAfter(api.ModeBroadcast, firstBit(bits), false, false)
		}
	}
}

// P10.3: the same, of an association that has nothing but its request.
func TestVerdictFirst(t *testing.T) {
	for _, x := range asking() {
		for bits := range 1 << 11 {
			if bits&1 == 1 || bits>>api.VerdictDup&1 == 1 {
				continue
			}
			p := keyed(t, x.kind)
			waited := bits>>api.VerdictLate&1 == 0
			if waited {
				p.ask(synced(), 6, 8)
			}
			v := firstBit(bits)
			q := spoilt(right(x.mode, 8, 30*second), bits)
			p.want(q, 9*second, bits>>api.VerdictAuth&1 == 0, v)
			p.wantWaits(waited && v >= api.VerdictMode && v <= api.VerdictAuth)
			if v == api.VerdictTaken {
				p.wantTold(toldOf(30 * second))
				p.wantEcho(30*second, 9*second)
			} else {
				p.wantTold(peer.Told{})
				p.wantEcho(0, 0)
			}
			if v == api.VerdictTaken || v == api.VerdictKiss {
				p.wantLast(x.mode, 30*second)
			}
		}
	}
}

// P10.3: what came is refused as often as it comes, though it answers the request; another one is not.
func TestDup(t *testing.T) {
	for _, x := range asking() {
		for _, xmt := range []api.Stamp{0, 1, 20 * second, 1 << 63, end} {
			p := kindOf(t, x.kind)
			p.ask(synced(), 6, 7)
			p.want(right(x.mode, 7, xmt), 3*second, false, api.VerdictTaken)
			for range 2 {
				p.want(right(x.mode, 7, xmt), 4*second, false, api.VerdictDup)
				p.ask(synced(), 6, 7)
				p.want(right(x.mode, 7, xmt), 4*second, false, api.VerdictDup)
				p.wantWaits(true)
			}
			p.clear()
			p.want(right(x.mode, 7, xmt), 4*second, false, api.VerdictDup)
			p.ask(synced(), 6, 7)
			p.want(right(x.mode, 7, xmt), 4*second, false, api.VerdictDup)
			// An earlier one is no Dup, if it is no broadcast: only the last one is remembered.
			p.want(right(x.mode, 7, xmt-second), 4*second, false, api.VerdictTaken)
			p.ask(synced(), 6, 7)
			p.want(right(x.mode, 7, xmt), 4*second, false, api.VerdictTaken)
		}
	}
}

// P10.3: a kiss is remembered as one that came, and nothing else of it is.
func TestKiss(t *testing.T) {
	for _, x := range asking() {
		p := kindOf(t, x.kind)
		p.ask(synced(), 6, 7)
		q := right(x.mode, 7, 20*second)
		q.Leap, q.Stratum = api.LeapAlarm, 0
		if v, sample := p.hear(q, 3*second, false); v != api.VerdictKiss || sample != (api.Sample{}) {
			t.Errorf("a kiss is %v, %+v", v, sample)
		}
		p.wantWaits(false)
		p.wantTold(peer.Told{})
		p.wantEcho(0, 0)
		q.Org = 1 << 40
		p.want(q, 3*second, false, api.VerdictDup)
		p.wantWaits(true)
		p.clear()
		p.want(q, 3*second, false, api.VerdictDup)
	}
	p := kindOf(t, api.KindListen)
	q := right(api.ModeBroadcast, 0, 20*second)
	q.Leap, q.Stratum = api.LeapAlarm, 0
	p.want(q, 3*second, false, api.VerdictKiss)
	p.wantTold(peer.Told{})
	p.want(right(api.ModeBroadcast, 0, 20*second), 3*second, false, api.VerdictDup)
	p.want(right(api.ModeBroadcast, 0, 20*second+1), 3*second, false, api.VerdictTaken)
}

// P10.3: which packets are a kiss: the Stratum 0, LeapAlarm, and a RefID that is not 0; own too.
func TestKissFields(t *testing.T) {
	for _, leap := range []int{-1, 0, 1, 2, 3, 4} {
		for _, stratum := range []int{-1, 0, 1, 2, 15, 16} {
			for _, ref := range []uint32{0, 1, own, 1<<32 - 1} {
				p := kindOf(t, api.KindServer)
				p.ask(synced(), 6, 7)
				q := right(api.ModeServer, 7, 20*second)
				q.Leap, q.Stratum, q.RefID = leap, stratum, ref
				want := api.VerdictTaken
				switch {
				case leap == 3 && stratum == 0 && ref != 0:
					want = api.VerdictKiss
				case leap == 3 || stratum < 1 || stratum > 15:
					want = api.VerdictAlarm
				case ref == own && stratum > 1:
					want = api.VerdictLoop
				}
				p.want(q, second, false, want)
				p.wantWaits(false)
				// Only what was taken, and a kiss, came.
				p.ask(synced(), 6, 8)
				want = api.VerdictTaken
				if v := p.m.story[len(p.m.story)-2].verdict; v == api.VerdictTaken || v == api.VerdictKiss {
					want = api.VerdictDup
				}
				p.want(right(api.ModeServer, 8, 20*second), second, false, want)
			}
		}
	}
}

// P10.3: a key asks for a right digest, of whatever number it is; without a key none is asked for.
func TestKeys(t *testing.T) {
	for _, x := range append(asking(), talk{api.KindListen, api.ModeBroadcast}) {
		for _, key := range []int{math.MinInt, -1, 0, 1, 5, 65535, 1 << 32, math.MaxInt} {
			for _, auth := range []bool{false, true} {
				p := pairOf(t, api.Assoc{Kind: x.kind, Key: key})
				p.ask(synced(), 6, 7)
				waits := p.p.Waits()
				if key != 0 && !auth {
					p.want(right(x.mode, 7, 20*second), second, auth, api.VerdictAuth)
					p.wantWaits(waits)
					p.wantTold(peer.Told{})
					// A kiss and a header that may not be make no difference.
					p.want(spoilt(right(x.mode, 7, 20*second), 1<<api.VerdictKiss), second, auth, api.VerdictAuth)
					p.want(spoilt(right(x.mode, 7, 20*second), 1<<api.VerdictAlarm), second, auth, api.VerdictAuth)
					p.wantWaits(waits)
				}
				p.want(right(x.mode, 7, 20*second), second, key != 0 || auth, api.VerdictTaken)
				p.wantTold(toldOf(20 * second))
			}
		}
	}
}

// P10.3: broadcasts that lie ahead of the last one, at it, behind it, and half an era away.
func TestBroadcastOrder(t *testing.T) {
	for _, start := range []api.Stamp{0, 1, 20 * second, 1<<63 - 1, 1 << 63, end} {
		for _, x := range []struct {
			behind api.Stamp
			want   int
		}{
			{0, api.VerdictDup},
			{1, api.VerdictTaken},
			{second, api.VerdictTaken},
			{1<<62 - 1, api.VerdictTaken},
			{1 << 62, api.VerdictTaken},
			{1<<62 + 1, api.VerdictTaken},
			{1<<63 - 1, api.VerdictTaken},
			{1 << 63, api.VerdictDup},
			{1<<63 + 1, api.VerdictDup},
			{3 << 62, api.VerdictDup},
			{end - second, api.VerdictDup},
			{end, api.VerdictDup},
		} {
			p := kindOf(t, api.KindListen)
			p.want(right(api.ModeBroadcast, 0, start), start, false, api.VerdictTaken)
			p.want(right(api.ModeBroadcast, 0, start+x.behind), start, false, x.want)
			told := toldOf(start)
			if x.want == api.VerdictTaken {
				told = toldOf(start + x.behind)
			}
			p.wantTold(told)
			p.clear()
			p.want(right(api.ModeBroadcast, 0, start+x.behind), start, false, api.VerdictDup)
		}
	}
}

// P10.3: a broadcast needs no request, whatever its Org is; one that was refused may come again.
func TestBroadcastUnasked(t *testing.T) {
	for _, org := range []api.Stamp{0, 1, 7, end} {
		p := kindOf(t, api.KindListen)
		p.ask(synced(), 6, 7)
		for i := range 4 {
			p.want(spoilt(right(api.ModeBroadcast, org, api.Stamp(20+i)*second), 1<<api.VerdictFar), second, false, api.VerdictFar)
			p.want(right(api.ModeBroadcast, org, api.Stamp(20+i)*second), second, false, api.VerdictTaken)
			p.wantTold(toldOf(api.Stamp(20+i) * second))
			p.wantWaits(false)
		}
	}
}

// P10.3: a first packet of one who asks as well is refused, but echoed.
func TestFirstEcho(t *testing.T) {
	for _, x := range symmetric() {
		for _, waits := range []bool{false, true} {
			for _, c := range []struct {
				key  int
				auth bool
			}{{0, false}, {0, true}, {5, true}} {
				for _, xmt := range []api.Stamp{0, 1, 20 * second, end} {
					p := pairOf(t, api.Assoc{Kind: x.kind, Key: c.key})
					want := api.VerdictLate
					if waits {
						p.ask(synced(), 6, 7)
						want = api.VerdictBogus
					}
					p.want(right(x.mode, 0, xmt), 3*second, c.auth, want)
					p.wantWaits(waits)
					p.wantTold(peer.Told{})
					// It is the first one alone, though its Xmt was 0; and it is none that came.
					p.want(right(x.mode, 0, xmt+1), 4*second, c.auth, want)
					p.want(right(x.mode, 0, xmt), 5*second, c.auth, want)
					p.wantEcho(xmt, 3*second)
					p.want(right(x.mode, 1<<40, xmt), 6*second, c.auth, api.VerdictTaken)
					p.want(right(x.mode, 0, xmt+1), 7*second, c.auth, api.VerdictLate)
					p.wantEcho(xmt, 6*second)
					// Behind Clear there is none, so there may be a first one again.
					p.clear()
					p.want(right(x.mode, 0, xmt+2), 8*second, c.auth, api.VerdictLate)
					p.wantEcho(xmt+2, 8*second)
				}
			}
		}
	}
}

// P10.3: an echo of the Xmt 0, heard at 0, is one.
func TestEchoOfNought(t *testing.T) {
	for _, x := range symmetric() {
		p := kindOf(t, x.kind)
		p.want(right(x.mode, 0, 0), 0, false, api.VerdictLate)
		p.want(right(x.mode, 0, 5), 6, false, api.VerdictLate)
		p.wantEcho(0, 0)
		p = kindOf(t, x.kind)
		p.ask(synced(), 6, 7)
		p.want(right(x.mode, 7, 0), 0, false, api.VerdictTaken)
		p.want(right(x.mode, 0, 5), 6, false, api.VerdictLate)
		p.wantEcho(0, 0)
	}
}

// P10.3: the header of a first packet is not looked at.
func TestFirstEchoWhateverItTells(t *testing.T) {
	for _, x := range symmetric() {
		for _, v := range []int{api.VerdictKiss, api.VerdictAlarm, api.VerdictHeader, api.VerdictFar, api.VerdictLoop} {
			p := kindOf(t, x.kind)
			p.want(spoilt(right(x.mode, 0, 20*second), 1<<v), 3*second, false, api.VerdictLate)
			p.wantEcho(20*second, 3*second)
		}
	}
}

// P10.3: what keeps a first echo from being taken.
func TestNoFirstEcho(t *testing.T) {
	for _, waits := range []bool{false, true} {
		refused := api.VerdictLate
		if waits {
			refused = api.VerdictBogus
		}
		begin := func(p *pair) *pair {
			if waits {
				p.ask(synced(), 6, 7)
			}
			return p
		}
		for _, x := range asking() {
			for _, org := range []api.Stamp{1, 8, second, 1 << 63, end} {
				p := begin(kindOf(t, x.kind))
				p.want(right(x.mode, org, 20*second), 3*second, false, refused)
				p.wantEcho(0, 0)
			}
			// Without the key's digest.
			p := begin(keyed(t, x.kind))
			p.want(right(x.mode, 0, 20*second), 3*second, false, refused)
			p.wantEcho(0, 0)
		}
		// Of one who does not ask himself.
		for _, x := range asking()[:4] {
			p := begin(kindOf(t, x.kind))
			p.want(right(x.mode, 0, 20*second), 3*second, false, refused)
			p.want(right(x.mode, 0, 20*second), 3*second, true, refused)
			p.wantEcho(0, 0)
		}
		// By a mode that does not belong there.
		for _, x := range []talk{{api.KindPassive, api.ModePassive}, {api.KindServer, api.ModeActive}, {api.KindFound, api.ModePassive}, {api.KindPeer, api.ModeServer}, {api.KindPeer, api.ModeBroadcast}} {
			p := begin(kindOf(t, x.kind))
			p.want(right(x.mode, 0, 20*second), 3*second, true, api.VerdictMode)
			p.wantEcho(0, 0)
		}
	}
	for _, x := range symmetric() {
		// What came already, behind Clear: there is no echo then.
		p := kindOf(t, x.kind)
		p.ask(synced(), 6, 7)
		p.want(right(x.mode, 7, 20*second), 3*second, false, api.VerdictTaken)
		p.clear()
		p.want(right(x.mode, 0, 20*second), 4*second, false, api.VerdictDup)
		p.wantEcho(0, 0)
		// What answers, but is not taken.
		for _, v := range []int{api.VerdictKiss, api.VerdictAlarm, api.VerdictHeader, api.VerdictFar, api.VerdictLoop} {
			p := kindOf(t, x.kind)
			p.ask(synced(), 6, 7)
			p.want(spoilt(right(x.mode, 7, 20*second), 1<<v), 3*second, true, v)
			p.wantEcho(0, 0)
		}
		p = keyed(t, x.kind)
		p.ask(synced(), 6, 7)
		p.want(right(x.mode, 7, 20*second), 3*second, false, api.VerdictAuth)
		p.wantEcho(0, 0)
	}
}
