package peer_test

import (
	"math/rand/v2"
	"reflect"
	"slices"
	"testing"

	"foliot/api"
	"foliot/peer"
)

// P10.1 to P10.3: drawn calls of two associations of all kinds: each answer is what all that happened to that one asks.
func TestStoriesDrawn(t *testing.T) {
	r := drawer(4)
	var seen [11]int
	echoes := 0
	for range 4000 {
		var pairs [2]*pair
		for i := range pairs {
			pairs[i] = pairOf(t, api.Assoc{Kind: r.IntN(11), Key: drawOf(r, 0, 5)})
		}
		for range 40 {
			p := pairs[r.IntN(2)]
			switch r.IntN(12) {
			case 0:
				p.clear()
			case 1, 2, 3:
				p.ask(drawSystem(r), drawInt(r), api.Stamp(r.IntN(4)))
			default:
				request, _ := p.m.request()
				q := drawPacket(r, drawOf(r, request, request, request, 0))
				// So that it often belongs there.
				if l := answeredBy(p.m.assoc.Kind); len(l) > 0 && r.IntN(8) > 0 {
					q.Mode = drawOf(r, l...)
				}
				v, _ := p.hear(q, drawStamp(r, q.Org), r.IntN(3) > 0)
				seen[v]++
				if p.m.story[len(p.m.story)-1].first {
					echoes++
				}
			}
		}
	}
	for v, count := range seen {
		if count < 300 {
			t.Errorf("the verdict %v was drawn %v times alone", v, count)
		}
	}
	if echoes < 300 {
		t.Errorf("a first echo was drawn %v times alone", echoes)
	}
}

// R3: two associations know nothing of one another.
func TestTwoPeers(t *testing.T) {
	a, b := kindOf(t, api.KindPeer), kindOf(t, api.KindPeer)
	a.ask(synced(), 6, 7)
	b.wantWaits(false)
	b.want(right(api.ModeActive, 7, 20*second), second, false, api.VerdictLate)
	a.want(right(api.ModeActive, 7, 20*second), second, false, api.VerdictTaken)
	b.wantTold(peer.Told{})
	b.wantEcho(0, 0)
	// It came to the one, not to the other.
	b.want(right(api.ModeActive, 1<<40, 20*second), 2*second, false, api.VerdictTaken)
	a.clear()
	b.wantTold(toldOf(20 * second))
	b.wantEcho(20*second, 2*second)
	a.wantWaits(false)
	b.clear()
	a.want(right(api.ModeActive, 0, 21*second), 3*second, false, api.VerdictLate)
	b.wantEcho(0, 0)
	a.wantEcho(21*second, 3*second)
}

// R5: the same calls have the same answers.
func TestOneAnswer(t *testing.T) {
	r := drawer(5)
	for range 200 {
		a := api.Assoc{Kind: r.IntN(11), Key: drawOf(r, 0, 5)}
		p, q := peer.New(a, own), peer.New(a, own)
		for range 40 {
			s, xmt := drawSystem(r), api.Stamp(r.IntN(4))
			x, is := p.Request(s, 6, xmt)
			if y, other := q.Request(s, 6, xmt); is != other || !samePacket(x, y) {
				t.Fatalf("the requests are %+v and %+v", x, y)
			}
			h, rec, auth := drawPacket(r, max(xmt, 1)), drawStamp(r, 0), r.IntN(2) == 0
			v, m := p.Hear(h, rec, auth)
			if w, n := q.Hear(h, rec, auth); v != w || m != n {
				t.Fatalf("the verdicts are %v, %+v and %v, %+v", v, m, w, n)
			}
		}
	}
}

// R3: a packet that is handed in stays as it is, what lies behind its lists' length too, and what becomes of it is not seen.
func TestHearKeepsNothing(t *testing.T) {
	for _, x := range append(asking(), talk{api.KindListen, api.ModeBroadcast}) {
		for bits := range 1 << 11 {
			if bits&1 == 1 {
				continue
			}
			p := keyed(t, x.kind)
			if bits>>api.VerdictLate&1 == 0 {
				p.ask(synced(), 6, 8)
			}
			room := []byte{1, 2, 3, 4, 5, 6, 7, 8}
			q := spoilt(right(x.mode, 8, 30*second), bits)
			q.KeyID, q.MAC, q.Exts = 5, room[2:4], []api.Ext{{Type: 1, Data: room[:2]}, {Type: 2}}[:1]
			before := q
			before.MAC, before.Exts = slices.Clone(q.MAC), []api.Ext{{Type: 1, Data: []byte{1, 2}}}
			p.p.Hear(q, 9*second, bits>>api.VerdictAuth&1 == 0)
			if !reflect.DeepEqual(q, before) || !slices.Equal(room, []byte{1, 2, 3, 4, 5, 6, 7, 8}) || q.Exts[:2][1].Type != 2 {
				t.Fatalf("%+v became %+v, %v", before, q, room)
			}
			told, waits := p.p.Told(), p.p.Waits()
			clear(room)
			q.Exts[0].Type = 99
			if p.p.Told() != told || p.p.Waits() != waits {
				t.Fatalf("what was told hangs on the packet that was handed in")
			}
		}
	}
}

// R3: each request is new.
func TestRequestIsNew(t *testing.T) {
	p := peer.New(api.Assoc{Kind: api.KindServer}, own)
	a, _ := p.Request(synced(), 6, 7)
	a.Exts, a.MAC = append(a.Exts, api.Ext{Type: 1}), append(a.MAC, 1)
	b, _ := p.Request(synced(), 6, 7)
	if len(b.Exts) != 0 || len(b.MAC) != 0 || cap(b.Exts) != 0 || cap(b.MAC) != 0 {
		t.Errorf("the second request is %+v", b)
	}
}

// P10.7: an exchange with a right clock: the offset is within half of the delay of ours, and a unit.
func TestTruth(t *testing.T) {
	r := drawer(6)
	for i := range 50000 {
		x := asking()[i%len(asking())]
		// How long the way there took, how long it stayed, and the way back.
		ways := [3]api.Stamp{}
		for j := range ways {
			ways[j] = api.Stamp(r.Uint64N(1 << r.IntN(61)))
		}
		off := api.Stamp((r.Int64N(1<<61) - 1<<60) >> r.IntN(60))
		sent := api.Stamp(r.Uint64())
		came := sent + ways[0]
		went := came + ways[1]
		back := went + ways[2]
		if sent+off == 0 {
			continue
		}
		p := peer.New(api.Assoc{Kind: x.kind}, own)
		request, _ := p.Request(synced(), 6, sent+off)
		q := right(x.mode, request.Xmt, went)
		q.Rec = came
		v, sample := p.Hear(q, back+off, false)
		if v != api.VerdictTaken {
			t.Fatalf("a right packet is %v", v)
		}
		// How far the offset is from -off, twice.
		if wrong := 2 * max(sample.Offset+api.Span(off), -sample.Offset-api.Span(off)); wrong > sample.Delay+2 {
			t.Fatalf("the ways %v, off by %v: the sample is %+v", ways, off, sample)
		}
	}
}

// forge is a packet that answers nothing, something else, came already, or has not the key's digest; of an association with the key 5.
func forge(r *rand.Rand, p *pair) (api.Packet, bool) {
	request, waits := p.m.request()
	mode := drawOf(r, answeredBy(p.m.assoc.Kind)...)
	q := drawPacket(r, request)
	q.Mode = mode
	var came []api.Packet
	for _, d := range p.m.story {
		if d.heard && (d.verdict == api.VerdictTaken || d.verdict == api.VerdictKiss) {
			came = append(came, d.q)
		}
	}
	switch r.IntN(4) {
	case 0:
		// Without the digest, though all else is right.
		return q, false
	case 1:
		if mode == api.ModeBroadcast {
			return q, false
		}
		// Of another request, or of none; not of 0, which might be echoed.
		for q.Org == 0 || waits && q.Org == request {
			q.Org = api.Stamp(r.Uint64())
		}
		return q, true
	case 2:
		if len(came) == 0 {
			return q, false
		}
		// The last one, changed, but for its Xmt.
		q.Xmt = came[len(came)-1].Xmt
		return q, true
	}
	if len(came) == 0 {
		return q, false
	}
	return drawOf(r, came...), true
}

// P10.7: forged and repeated packets in between change nothing of what is told, waited for, asked and judged.
func TestForgery(t *testing.T) {
	r := drawer(7)
	for _, x := range append(asking(), talk{api.KindListen, api.ModeBroadcast}) {
		for range 300 {
			a := api.Assoc{Kind: x.kind, Key: 5}
			honest, attacked := pairOf(t, a), pairOf(t, a)
			now := api.Stamp(r.Uint64())
			both := func(q api.Packet, auth bool) {
				t.Helper()
				v, m := honest.hear(q, now, auth)
				if w, n := attacked.hear(q, now, auth); v != w || m != n {
					t.Fatalf("the verdicts are %v, %+v and %v, %+v", v, m, w, n)
				}
			}
			for range 12 {
				now += api.Stamp(1 + r.Int64N(100*second))
				s := drawSystem(r)
				mine, _ := honest.ask(s, 6, now)
				if other, _ := attacked.ask(s, 6, now); !samePacket(mine, other) {
					t.Fatalf("the requests are %+v and %+v", mine, other)
				}
				attack(t, r, honest, attacked, now)
				now += api.Stamp(1 + r.Int64N(second))
				q := right(x.mode, mine.Xmt, now)
				if r.IntN(4) == 0 {
					spoil(r, &q)
					// No broadcast is of a time that is still to come, so that all that follow are later.
					q.Xmt = now
				}
				both(q, true)
				attack(t, r, honest, attacked, now)
				if r.IntN(10) == 0 {
					honest.clear()
					attacked.clear()
					attack(t, r, honest, attacked, now)
				}
			}
		}
	}
}

func attack(t *testing.T, r *rand.Rand, honest, attacked *pair, now api.Stamp) {
	t.Helper()
	for range r.IntN(5) {
		q, auth := forge(r, attacked)
		v, sample := attacked.hear(q, now, auth)
		if v < api.VerdictMode || v > api.VerdictAuth || sample != (api.Sample{}) {
			t.Fatalf("the forged packet %+v, %v is %v, %+v", q, auth, v, sample)
		}
		if attacked.p.Told() != honest.p.Told() || attacked.p.Waits() != honest.p.Waits() {
			t.Fatalf("the forged packet %+v, %v changes what is told or waited for", q, auth)
		}
	}
}

// P10.7: a story written out: all that is forged is refused, and what is right is taken as if it had not come.
func TestForgeryWrittenOut(t *testing.T) {
	for _, x := range asking() {
		p := keyed(t, x.kind)
		p.want(right(x.mode, 9, 20*second), second, true, api.VerdictLate)
		p.ask(synced(), 6, 7)
		p.want(right(x.mode, 7, 20*second), second, false, api.VerdictAuth)
		p.want(right(x.mode, 8, 20*second), second, true, api.VerdictBogus)
		p.want(right(x.mode, 0, 20*second), second, false, api.VerdictBogus)
		p.wantWaits(true)
		p.want(right(x.mode, 7, 20*second), 2*second, true, api.VerdictTaken)
		p.want(right(x.mode, 7, 20*second), 3*second, true, api.VerdictDup)
		p.want(right(x.mode, 7, 20*second), 3*second, false, api.VerdictDup)
		p.want(right(x.mode, 7, 21*second), 3*second, true, api.VerdictLate)
		p.want(right(x.mode, 0, 22*second), 3*second, true, api.VerdictLate)
		p.wantTold(toldOf(20 * second))
		p.wantEcho(20*second, 2*second)
		p.clear()
		p.want(right(x.mode, 7, 20*second), 3*second, true, api.VerdictDup)
		p.ask(synced(), 6, 7)
		p.want(right(x.mode, 7, 20*second), 3*second, true, api.VerdictDup)
		p.wantWaits(true)
		p.wantTold(peer.Told{})
		p.want(right(x.mode, 7, 23*second), 4*second, true, api.VerdictTaken)
		p.wantTold(toldOf(23 * second))
	}
}

// P10.7: broadcasts that came are refused, each of them, till half an era has gone.
func TestOldBroadcasts(t *testing.T) {
	p := keyed(t, api.KindListen)
	for i := range 20 {
		p.want(right(api.ModeBroadcast, 0, api.Stamp(i)<<57), second, true, api.VerdictTaken)
		for j := range i + 1 {
			p.want(right(api.ModeBroadcast, 0, api.Stamp(j)<<57), second, true, api.VerdictDup)
		}
		p.want(right(api.ModeBroadcast, 0, api.Stamp(i+1)<<57), second, false, api.VerdictAuth)
		p.wantTold(toldOf(api.Stamp(i) << 57))
		if i%5 == 0 {
			p.clear()
			p.want(right(api.ModeBroadcast, 0, api.Stamp(i)<<57), second, true, api.VerdictDup)
			p.wantTold(peer.Told{})
		}
	}
}
