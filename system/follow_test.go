package system_test

import (
	"testing"

	"foliot/api"
	"foliot/system"
	"foliot/wire"
)

// P17.6: what is answered can be encoded, has 48 bytes, and comes to no more than what was asked.
func TestEncoded(t *testing.T) {
	r := drawer(4)
	answered := 0
	for range 20000 {
		y, q := drawSystem(r), drawPacket(r)
		p, ok := system.Reply(y, q, drawStamp(r), drawStamp(r))
		if !ok {
			continue
		}
		answered++
		b, err := wire.Encode(p)
		if err != api.OK || len(b) != 48 {
			t.Fatalf("of %+v and %+v it is %+v: %d, %d bytes", y, q, p, err, len(b))
		}
		// The answer is told as it was meant, but for spans as they are on the wire.
		back, err := wire.Decode(b)
		back.Delay, back.Disp = p.Delay, p.Disp
		if err != api.OK || flat(back) != flat(p) {
			t.Fatalf("%+v is read as %+v, %d", p, back, err)
		}
	}
	if answered < 3000 {
		t.Errorf("%d were answered", answered)
	}
}

// P17.6: a packet that was decoded is never shorter than its answer, with or without a digest.
func TestNoLonger(t *testing.T) {
	asked := []api.Packet{
		{Version: 1, Mode: api.ModeClient},
		{Version: 4, Mode: api.ModeActive, Nak: true},
		{Version: 4, Mode: api.ModeClient, KeyID: 7, MAC: make([]byte, 20)},
		{Version: 4, Mode: api.ModeClient, Exts: []api.Ext{{Data: make([]byte, 28)}}},
	}
	for _, a := range asked {
		b, err := wire.Encode(a)
		if err != api.OK {
			t.Fatal(err)
		}
		q, err := wire.Decode(b)
		if err != api.OK {
			t.Fatal(err)
		}
		p, ok := system.Reply(plain(), q, 5, 6)
		if !ok {
			t.Fatalf("%+v is not answered", q)
		}
		if back, err := wire.Encode(p); err != api.OK || len(back) > len(b) {
			t.Errorf("%d bytes are answered by %d", len(b), len(back))
		}
	}
}

// P17.6: an answer is answered by nothing.
func TestNoAnswerIsAnswered(t *testing.T) {
	for _, mode := range []int{api.ModeClient, api.ModeActive} {
		p, _ := system.Reply(plain(), ask(func(q *api.Packet) { q.Mode = mode }), 5, 6)
		if x, ok := system.Reply(plain(), p, 7, 8); ok {
			t.Errorf("%+v is answered by %+v", p, x)
		}
	}
}

// P17.6: the distance never falls with time alone, from any time to any later one within half an era of Ref.
func TestDistanceNeverFalls(t *testing.T) {
	r := drawer(5)
	for range 3000 {
		y := drawSystem(r)
		a, b := api.Stamp(r.Uint64()>>1>>r.IntN(63)), api.Stamp(r.Uint64()>>1>>r.IntN(63))
		early, late := system.Distance(y, y.Ref+min(a, b)), system.Distance(y, y.Ref+max(a, b))
		if early > late {
			t.Fatalf("of %+v it falls from %d at %d to %d at %d", y, early, min(a, b), late, max(a, b))
		}
		// Ahead of Ref it is what it is there.
		if before := system.Distance(y, y.Ref-b); before != system.Distance(y, y.Ref) {
			t.Fatalf("of %+v it is %d ahead of Ref", y, before)
		}
	}
	for _, disp := range []api.Span{-1000, 0, sixteen - 1000} {
		y := but(plain(), func(y *api.System) { y.Disp = disp })
		was := system.Distance(y, y.Ref-100*s)
		for second := range api.Stamp(300) {
			is := system.Distance(y, y.Ref-100*s+second*s)
			if is < was {
				t.Errorf("behind %d seconds it falls from %d to %d", second, was, is)
			}
			was = is
		}
	}
}

// P17.6: whoever follows a lead of the stratum 15 or more is not synchronised, whatever its leap; of 0 to 14 the leap alone says it.
func TestSyncedByFollowing(t *testing.T) {
	for _, stratum := range numbers {
		for leap := range 4 {
			l := lead(func(l *system.Lead) { l.Stratum, l.Leap = stratum, leap })
			got := system.Synced(system.Follow(plain(), l, 5, 6, 7))
			if want := stratum >= 0 && stratum <= 14 && leap != 3; got != want {
				t.Errorf("behind a lead of the stratum %d, the leap %d it is %t", stratum, leap, got)
			}
		}
	}
}

// P17.1 to P17.6: drawn systems, each handed on from call to call.
func TestDrawn(t *testing.T) {
	r := drawer(6)
	for range 400 {
		y := drawSystem(r)
		if r.IntN(2) == 0 {
			y = system.New(api.Config{})
		}
		for range 50 {
			now := drawStamp(r)
			if r.IntN(2) == 0 {
				now = y.Ref + api.Stamp(r.IntN(2000))*s/16
			}
			holdAge(t, y, now)
			holdReply(t, y, drawPacket(r), drawStamp(r), now)
			switch r.IntN(5) {
			case 0:
				y = system.Age(y, now)
			case 1, 2:
				l, f, poll := drawLead(r), api.Freq(drawSpan(r)), drawNumber(r)
				holdFollow(t, y, l, f, poll, now)
				y = system.Follow(y, l, f, poll, now)
			case 3:
				c := api.Config{Orphan: drawNumber(r)}
				holdOrphan(t, y, c, now)
				y = system.Orphan(y, c, now)
			case 4:
				y = system.Lose(y)
			}
		}
	}
}
