package assoc_test

import (
	"reflect"
	"slices"
	"testing"

	"foliot/api"
	"foliot/assoc"
)

// modes are all that there are, and some that are none.
var modes = []int{least, -1, 0, 1, 2, 3, 4, 5, 6, 7, 8, 1 << 32, 1<<32 + 3, greatest}

// singles are those who can be answered, next to those who cannot.
var singles = []uint32{1, 9, 0x7fffffff, 0x80000000, 0xdfffffff, 0xf0000000, 0xfffffffe}

// groups are all the ends of the groups' range.
var groups = []uint32{0xe0000000, 0xe0000001, 0xe0000101, 0xe8000000, 0xeffffffe, 0xefffffff}

// crowds are groups, and everybody.
var crowds = append(groups[:len(groups):len(groups)], everybody)

// P12.5: at every kind and every mode, and beyond them.
func TestDispatch(t *testing.T) {
	if len(cells) != 50 {
		t.Fatalf("the chapter's table has %d cells", len(cells))
	}
	for _, kind := range append([]int{11, 12, 1 << 32, 1<<32 + 1}, kinds...) {
		for _, mode := range modes {
			if got, want := assoc.Dispatch(kind, mode), cells[cell{kind, mode}]; got != want {
				t.Errorf("Dispatch(%d, %d) is %d, not %d", kind, mode, got, want)
			}
		}
	}
}

// P12.5: all numbers from -40 to 300; what is not None is counted by the chapter's table.
func TestDispatchWide(t *testing.T) {
	counts := [7]int{}
	for kind := -40; kind <= 300; kind++ {
		for mode := -40; mode <= 300; mode++ {
			counts[assoc.Dispatch(kind, mode)]++
		}
	}
	if counts != [7]int{341*341 - 21, 10, 8, 1, 1, 1, 0} {
		t.Errorf("there are %v", counts)
	}
}

func (p *pair) routes(k packet, action, id int) {
	p.t.Helper()
	if a, n := p.route(k); a != action || n != id {
		p.t.Fatalf("Route of %+v is %d, %d, not %d, %d", k, a, n, action, id)
	}
}

func sent(mode int, from uint32) packet {
	return packet{p: api.Packet{Mode: mode}, from: from, to: 1}
}

// P12.6: an association's packets are for it, whoever sent them, whatever the flags, the digest and the configuration are, and whether there is room.
func TestRouteProcess(t *testing.T) {
	for _, k := range []struct{ kind, mode int }{{1, 4}, {9, 4}, {4, 4}, {5, 4}, {2, 1}, {2, 2}, {7, 1}, {8, 5}} {
		for _, from := range append([]uint32{0, 5, everybody}, groups...) {
			for _, n := range []int{1, 8, 15} {
				l := append(servers(n, 0x1000), of(k.kind, from))
				x := pairOf(t, l...)
				for _, flags := range []int{0, 1, 8, 16, 128, 255, -1} {
					q := sent(k.mode, from)
					q.flags = flags
					x.routes(q, assoc.Process, n+1)
					q.auth, q.to, q.c.Listen = true, everybody, true
					x.routes(q, assoc.Process, n+1)
				}
			}
		}
	}
}

// P12.6: at each kind and each mode, of a sender that is known; a clock's unit is no sender.
func TestRouteOfEach(t *testing.T) {
	for _, kind := range kinds {
		for _, mode := range modes {
			x := pairOf(t, of(6, 5), of(kind, 7))
			for _, from := range []uint32{5, 7} {
				k := sent(mode, from)
				k.c.Listen, k.c.Manycast = true, true
				x.route(k)
				action, id := x.x.Route(k.c, k.p, 5, 1, 0, true)
				if other, n := x.x.Route(k.c, k.p, 99, 1, 0, true); action != other || id != n {
					t.Errorf("of the unit of a clock: %d, %d, not %d, %d", action, id, other, n)
				}
			}
		}
	}
}

// P12.6: an association whose Kind is 0 makes of a packet what there would be without it.
func TestRouteOfKindNought(t *testing.T) {
	x := pairOf(t, of(0, 7), of(api.KindPool, 8))
	for mode, want := range map[int][2]int{1: {assoc.Active, 0}, 2: {0, 0}, 3: {assoc.Answer, 0}, 4: {assoc.Found, 2}, 5: {0, 0}} {
		x.routes(sent(mode, 7), want[0], want[1])
	}
}

// flagsAlone are all of them, each alone, with what it does to a request, to what mobilises without a digest, and to what has one.
var flagsAlone = []struct {
	flag                  int
	answer, bare, trusted bool
}{
	{0, true, true, true},
	{api.NoServe, false, true, true},
	{api.NoQuery, true, true, true},
	{api.NoModify, true, true, true},
	{api.NoPeer, true, false, false},
	{api.NoTrust, true, false, true},
	{api.Limited, true, true, true},
	{api.Kod, true, true, true},
	{api.Ignore, true, true, true},
	{256, true, true, true},
	{1 << 40, true, true, true},
	{least, true, true, true},
	{api.NoQuery | api.NoModify | api.Limited | api.Kod | api.Ignore, true, true, true},
	{api.NoServe | api.NoTrust, false, false, true},
	{api.NoPeer | api.NoTrust, true, false, false},
	{255, false, false, false},
	{-1, false, false, false},
	{^(api.NoServe | api.NoPeer | api.NoTrust), true, true, true},
}

// allows holds the flags against an action that stays, if they allow it.
func allows(x *pair, k packet, action, id int, asked func(i int, auth bool) bool) {
	x.t.Helper()
	for i, f := range flagsAlone {
		for _, auth := range []bool{false, true} {
			k.flags, k.auth = f.flag, auth
			if asked(i, auth) {
				x.routes(k, action, id)
			} else {
				x.routes(k, assoc.None, 0)
			}
		}
	}
}

func mobilises(i int, auth bool) bool {
	return auth && flagsAlone[i].trusted || flagsAlone[i].bare
}

// P12.6: each flag alone, those that do not matter, and all of them, with each action.
func TestRouteFlags(t *testing.T) {
	x := pairOf(t, server(5), of(api.KindPool, 6))
	allows(x, sent(3, 9), assoc.Answer, 0, func(i int, auth bool) bool { return flagsAlone[i].answer })
	allows(x, sent(3, 5), assoc.Answer, 0, func(i int, auth bool) bool { return flagsAlone[i].answer })
	k := sent(3, 9)
	k.c.Manycast, k.to = true, 0xe0000101
	allows(x, k, assoc.Manycast, 0, func(i int, auth bool) bool { return flagsAlone[i].answer })
	allows(x, sent(1, 9), assoc.Active, 0, mobilises)
	allows(x, sent(4, 9), assoc.Found, 2, mobilises)
	k = sent(5, 9)
	k.c.Listen = true
	allows(x, k, assoc.Listen, 0, mobilises)
	allows(x, sent(4, 5), assoc.Process, 1, func(i int, auth bool) bool { return true })
}

// P12.6: from 0, from the groups' ends and beside them, from everybody: nobody there is answered, or becomes active.
func TestRouteFrom(t *testing.T) {
	x := pairOf(t, server(5), of(api.KindManycast, 0xe1000000))
	for _, mode := range []int{api.ModeClient, api.ModeActive} {
		action := map[int]int{api.ModeClient: assoc.Answer, api.ModeActive: assoc.Active}[mode]
		for _, from := range singles {
			x.routes(sent(mode, from), action, 0)
		}
		for _, from := range append([]uint32{0}, crowds...) {
			x.routes(sent(mode, from), assoc.None, 0)
		}
	}
}

// P12.6: a request of a group's association is answered no more than one of any other group.
func TestRouteFromKnownGroup(t *testing.T) {
	x := pairOf(t, of(api.KindManycast, 0xe1000000), of(api.KindBroadcast, everybody), server(0))
	for _, from := range []uint32{0xe1000000, everybody, 0} {
		x.routes(sent(api.ModeClient, from), assoc.None, 0)
	}
}

// P12.6: broadcasts and answers are taken from whomever they come.
func TestRouteFromAnybody(t *testing.T) {
	x := pairOf(t, server(5), of(api.KindPool, 6))
	for _, from := range append(append([]uint32{0}, singles...), crowds...) {
		k := sent(api.ModeBroadcast, from)
		k.c.Listen = true
		x.routes(k, assoc.Listen, 0)
		x.routes(sent(api.ModeServer, from), assoc.Found, 2)
	}
}

// P12.6: to 0, to the groups' ends and beside them, to everybody; with Manycast and without.
func TestRouteTo(t *testing.T) {
	x := pairOf(t, server(5))
	for _, manycast := range []bool{false, true} {
		for _, listen := range []bool{false, true} {
			for _, from := range []uint32{5, 9} {
				k := sent(api.ModeClient, from)
				k.c.Manycast, k.c.Listen = manycast, listen
				for _, k.to = range append([]uint32{0}, singles...) {
					x.routes(k, assoc.Answer, 0)
				}
				for _, k.to = range crowds {
					if manycast {
						x.routes(k, assoc.Manycast, 0)
					} else {
						x.routes(k, assoc.None, 0)
					}
				}
			}
		}
	}
}

// P12.6: to whom they came matters to requests alone.
func TestRouteToAnybody(t *testing.T) {
	x := pairOf(t, server(5), of(api.KindPool, 6))
	for _, to := range append(append([]uint32{0}, singles...), crowds...) {
		for mode, want := range map[int][2]int{api.ModeActive: {assoc.Active, 0}, api.ModeServer: {assoc.Found, 2}, api.ModeBroadcast: {assoc.Listen, 0}} {
			k := sent(mode, 9)
			k.to, k.c.Listen = to, true
			x.routes(k, want[0], want[1])
		}
	}
}

// P12.6: Listen is of broadcasts alone, Manycast of requests alone.
func TestRouteConfigured(t *testing.T) {
	x := pairOf(t, of(api.KindPool, 6))
	for _, listen := range []bool{false, true} {
		for _, manycast := range []bool{false, true} {
			c := api.Config{Listen: listen, Manycast: manycast}
			for mode, want := range map[int][2]int{1: {assoc.Active, 0}, 3: {assoc.Answer, 0}, 4: {assoc.Found, 1}} {
				x.routes(packet{c: c, p: api.Packet{Mode: mode}, from: 9, to: 1}, want[0], want[1])
			}
			want := assoc.None
			if listen {
				want = assoc.Listen
			}
			x.routes(packet{c: c, p: api.Packet{Mode: 5}, from: 9, to: 1}, want, 0)
		}
	}
}

// P12.6: c's Assocs do not count, the table's do.
func TestRouteLooksAtTheTable(t *testing.T) {
	x := pairOf(t, server(5))
	k := sent(api.ModeServer, 7)
	k.c.Assocs = append(servers(16, 7), of(api.KindPool, 90))
	x.routes(k, assoc.None, 0)
	k.p.Mode = api.ModeActive
	x.routes(k, assoc.Active, 0)
}

// P12.6: nothing is mobilised by a table that is full; requests and what is known go on.
func TestRouteFull(t *testing.T) {
	l := append(servers(14, 100), of(api.KindPool, 5))
	for _, mode := range []int{api.ModeActive, api.ModeServer, api.ModeBroadcast} {
		x := pairOf(t, l...)
		k := sent(mode, 9)
		k.c.Listen, k.auth = true, true
		want := map[int][2]int{api.ModeActive: {assoc.Active, 0}, api.ModeServer: {assoc.Found, 15}, api.ModeBroadcast: {assoc.Listen, 0}}[mode]
		x.routes(k, want[0], want[1])
		x.added(server(50), 0, 0)
		x.routes(k, assoc.None, 0)
		x.routes(sent(api.ModeClient, 9), assoc.Answer, 0)
		x.routes(sent(api.ModeServer, 100), assoc.Process, 1)
		x.drop(3)
		x.routes(k, want[0], want[1])
	}
}

// P12.6: no search, one, and several of both Kinds; the least number counts, whichever Kind it is.
func TestRouteSearch(t *testing.T) {
	for _, c := range []struct{ kinds, searches []int }{
		{nil, nil}, {[]int{1, 2, 3, 6, 7, 8, 9, 0, 10, -1}, nil},
		{[]int{4}, []int{1}}, {[]int{5}, []int{1}}, {[]int{1, 4}, []int{2}}, {[]int{9, 6, 5}, []int{3}},
		{[]int{1, 4, 5}, []int{2, 3}}, {[]int{1, 5, 4}, []int{2, 3}}, {[]int{4, 4, 1, 5, 5}, []int{1, 2, 4, 5}}, {[]int{6, 3, 5, 5, 4}, []int{3, 4, 5}},
	} {
		x := pairOf(t)
		for i, kind := range c.kinds {
			x.added(of(kind, uint32(100+i)), 0, 0)
		}
		for _, search := range c.searches {
			x.routes(sent(api.ModeServer, 9), assoc.Found, search)
			x.drop(search)
		}
		x.routes(sent(api.ModeServer, 9), assoc.None, 0)
	}
}

// P12.6: nothing of a packet counts but its Mode.
func TestRouteLooksAtTheMode(t *testing.T) {
	x := pairOf(t, server(5), of(api.KindPool, 6))
	q := api.Packet{Leap: 3, Version: -1, Stratum: 99, Poll: 77, Delay: -1, Disp: -1, Org: 5, KeyID: 7, Nak: true, MAC: []byte{1}}
	for mode := range 8 {
		for _, from := range []uint32{0, 5, 6, 9} {
			k := sent(mode, from)
			action, id := x.route(k)
			k.p, k.p.Mode = q, mode
			x.routes(k, action, id)
		}
	}
}

// R3: neither the table nor what is handed in is changed, though it is told to mobilise.
func TestRouteChangesNothing(t *testing.T) {
	made := func() packet {
		return packet{
			c:     api.Config{Assocs: servers(3, 1)[:2], Rules: []api.Rule{{Addr: 1}}, Listen: true, Manycast: true},
			p:     api.Packet{Exts: []api.Ext{{Type: 1, Data: []byte{2}}}, MAC: []byte{1, 2}},
			to:    1,
			flags: 2,
		}
	}
	x := pairOf(t, server(5), of(api.KindPool, 6), api.Assoc{Kind: api.KindManycast, TTL: 3, Addr: 7})
	x.hops(3)
	before := x.x.List()
	k := made()
	for _, k.p.Mode = range modes {
		for _, k.from = range []uint32{5, 6, 9} {
			x.route(k)
			x.check()
		}
	}
	k.p.Mode, k.from = 0, 0
	if !reflect.DeepEqual(k, made()) || k.c.Assocs[:3][2] != server(3) {
		t.Errorf("it became %+v", k)
	}
	if hops, _ := x.hops(3); hops != 2 || !slices.Equal(x.x.List(), before) {
		t.Errorf("it became %+v", x.x.List())
	}
}
