package system_test

import (
	"testing"

	"foliot/api"
	"foliot/stamp"
	"foliot/system"
)

func ask(f func(q *api.Packet)) api.Packet {
	q := api.Packet{Version: 4, Mode: api.ModeClient, Poll: 6, Xmt: 9}
	f(&q)
	return q
}

// asks replies to what is asked plainly, but for what f changes.
func asks(t *testing.T, y api.System, f func(q *api.Packet)) api.Packet {
	t.Helper()
	q := ask(f)
	holdReply(t, y, q, 50, 60)
	p, ok := system.Reply(y, q, 50, 60)
	if !ok {
		t.Fatalf("%+v is not answered", q)
	}
	return p
}

// P17.5: each field of an answer.
func TestReply(t *testing.T) {
	y := plain()
	q := api.Packet{
		Leap: 2, Version: 3, Mode: api.ModeClient, Stratum: 8, Poll: 7, Precision: -6, Delay: 91, Disp: 92, RefID: 93, Ref: 94, Org: 95, Rec: 96, Xmt: 97,
		Exts: []api.Ext{{Type: 1, Data: make([]byte, 24)}}, KeyID: 5, Nak: true, MAC: make([]byte, 20),
	}
	want := packet{leap: 0, version: 3, mode: api.ModeServer, stratum: 3, poll: 7, precision: -20, delay: 2000, disp: 1000 + 644245, refID: 9, ref: 5 * s, org: 97, rec: 14 * s, xmt: 15 * s}
	p, ok := system.Reply(y, q, 14*s, 15*s)
	if flat(p) != want || !ok {
		t.Errorf("it is %+v and %t, not %+v", flat(p), ok, want)
	}
	q.Mode, want.mode = api.ModeActive, api.ModePassive
	p, ok = system.Reply(y, q, 14*s, 15*s)
	if flat(p) != want || !ok {
		t.Errorf("it is %+v and %t, not %+v", flat(p), ok, want)
	}
}

// P17.5: which modes are answered, of all numbers.
func TestReplyMode(t *testing.T) {
	answers := map[int]int{1: 2, 3: 4}
	modes := append([]int{1 << 33, 1<<32 + 1, 1<<32 + 3, -1<<63 + 3, -5, -9, 33, 67, 257, 259}, numbers...)
	for _, mode := range modes {
		q := ask(func(q *api.Packet) { q.Mode = mode })
		p, ok := system.Reply(plain(), q, 50, 60)
		if ok != (answers[mode] != 0) || p.Mode != answers[mode] {
			t.Errorf("to the mode %d it is %+v and %t", mode, p, ok)
		}
		if !ok && flat(p) != (packet{}) {
			t.Errorf("to the mode %d there is %+v", mode, p)
		}
		holdReply(t, plain(), q, 50, 60)
	}
}

// P17.5: what is asked for by odd numbers is answered by numbers that may be.
func TestReplyCuts(t *testing.T) {
	for _, x := range []struct{ version, want int }{{least, 1}, {-1, 1}, {0, 1}, {1, 1}, {2, 2}, {3, 3}, {4, 4}, {5, 4}, {7, 4}, {greatest, 4}} {
		if p := asks(t, plain(), func(q *api.Packet) { q.Version = x.version }); p.Version != x.want {
			t.Errorf("to the version %d it is %d, not %d", x.version, p.Version, x.want)
		}
	}
	for _, x := range []struct{ poll, want int }{
		{least, -128}, {-129, -128}, {-128, -128}, {-127, -127}, {-1, -1}, {0, 0}, {2, 2}, {11, 11}, {126, 126}, {127, 127}, {128, 127}, {greatest, 127},
	} {
		if p := asks(t, plain(), func(q *api.Packet) { q.Poll = x.poll }); p.Poll != x.want {
			t.Errorf("to the poll %d it is %d, not %d", x.poll, p.Poll, x.want)
		}
	}
}

// P17.5: of the system's own leap and stratum only what may be is told.
func TestReplyLeapAndStratum(t *testing.T) {
	for _, x := range []struct{ leap, want int }{
		{0, 0}, {1, 1}, {2, 2}, {3, 3}, {4, 0}, {5, 1}, {7, 3}, {8, 0}, {255, 3}, {-1, 3}, {-2, 2}, {-3, 1}, {-4, 0}, {greatest, 3}, {least, 0}, {least + 1, 1},
	} {
		y := but(plain(), func(y *api.System) { y.Leap = x.leap })
		if p := asks(t, y, func(q *api.Packet) { q.Leap = 1 }); p.Leap != x.want {
			t.Errorf("of the leap %d it is %d, not %d", x.leap, p.Leap, x.want)
		}
	}
	for _, x := range []struct{ stratum, want int }{
		{least, 0}, {-1, 0}, {0, 0}, {1, 1}, {2, 2}, {14, 14}, {15, 15}, {16, 0}, {17, 0}, {256, 0}, {257, 0}, {1<<32 + 1, 0}, {greatest, 0},
	} {
		for _, leap := range []int{0, 3} {
			y := but(plain(), func(y *api.System) { y.Leap, y.Stratum = leap, x.stratum })
			if p := asks(t, y, func(q *api.Packet) { q.Stratum = 5 }); p.Stratum != x.want || p.Leap != leap {
				t.Errorf("of the stratum %d, the leap %d it is %d, %d, not %d", x.stratum, leap, p.Stratum, p.Leap, x.want)
			}
		}
	}
}

// P17.5: delay and dispersion are what a packet has room for, the delay alone; a dispersion is inside 16 seconds already.
func TestReplyRoot(t *testing.T) {
	for _, x := range []struct{ given, delay, disp api.Span }{
		{lowest, 0, 0}, {-most, 0, 0}, {-1, 0, 0}, {0, 0, 0}, {1, 1, 1}, {sixteen - 1, sixteen - 1, sixteen - 1}, {sixteen, sixteen, sixteen},
		{sixteen + 1, sixteen + 1, sixteen}, {wide - 1, wide - 1, sixteen}, {wide, wide, sixteen}, {wide + 1, wide, sixteen}, {most, wide, sixteen}, {top, wide, sixteen},
	} {
		y := but(plain(), func(y *api.System) { y.Delay, y.Disp = x.given, x.given })
		if p := asks(t, y, func(q *api.Packet) {}); p.Delay != x.delay || p.Disp != x.disp {
			t.Errorf("of the delay and disp %d they are %d and %d", x.given, p.Delay, p.Disp)
		}
	}
	if stamp.FromShort(1<<32-1) != wide {
		t.Errorf("the widest is %d", stamp.FromShort(1<<32-1))
	}
}

// P17.5: the dispersion is that at xmt, not that at rec; at an xmt of 0, which is told as 1, it is that at 0.
func TestReplyAges(t *testing.T) {
	y := plain()
	for _, x := range []struct {
		rec, xmt api.Stamp
		disp     api.Span
	}{
		{5 * s, 5 * s, 1000}, {6 * s, 5 * s, 1000}, {5 * s, 6 * s, 1000 + 64424}, {0, 15 * s, 1000 + 644245}, {15 * s, 4 * s, 1000},
	} {
		if p, _ := system.Reply(y, ask(func(q *api.Packet) {}), x.rec, x.xmt); p.Disp != x.disp || p.Rec != x.rec || p.Xmt != x.xmt {
			t.Errorf("of %+v it is %+v", x, p)
		}
	}
	// At this Ref the 66667th span is the first that tells, and it ends at 1.
	y.Ref = last - 66665
	for _, x := range []struct {
		xmt  api.Stamp
		disp api.Span
	}{{0, 1000}, {1, 1001}} {
		if p, _ := system.Reply(y, ask(func(q *api.Packet) {}), 0, x.xmt); p.Disp != x.disp || p.Xmt != 1 {
			t.Errorf("at %d it is %+v", x.xmt, p)
		}
	}
}

// P17.5: the stamps: the request's Xmt comes back, none of its others does; xmt is 1, if it is 0.
func TestReplyStamps(t *testing.T) {
	for _, a := range stamps {
		for _, b := range stamps {
			y := but(plain(), func(y *api.System) { y.Ref = b })
			q := ask(func(q *api.Packet) { q.Xmt, q.Org, q.Rec, q.Ref = a, 31, 32, 33 })
			p, ok := system.Reply(y, q, b, a)
			if !ok || p.Org != a || p.Rec != b || p.Xmt != max(a, 1) || p.Ref != b {
				t.Errorf("at %d and %d it is %+v", a, b, p)
			}
			holdReply(t, y, q, b, a)
		}
	}
}

// Rules: what is asked is neither changed nor kept.
func TestReplyMemory(t *testing.T) {
	data, mac := []byte("abcdefghijklmnopqrstuvwx"), []byte("abcdefghijklmnopqrst")
	q := ask(func(q *api.Packet) { q.Exts, q.KeyID, q.MAC = []api.Ext{{Type: 5, Data: data}}, 5, mac })
	p, _ := system.Reply(plain(), q, 50, 60)
	if string(data) != "abcdefghijklmnopqrstuvwx" || string(mac) != "abcdefghijklmnopqrst" || len(q.Exts) != 1 || q.Exts[0].Type != 5 {
		t.Errorf("the request is %+v", q)
	}
	if len(p.Exts) != 0 || len(p.MAC) != 0 || p.KeyID != 0 || p.Nak {
		t.Errorf("the answer is %+v", p)
	}
}
