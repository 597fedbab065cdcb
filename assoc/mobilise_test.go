package assoc_test

import (
	"reflect"
	"slices"
	"testing"

	"foliot/api"
	"foliot/assoc"
)

func (p *pair) immobile(action, parent int, from uint32, want api.Errno) {
	p.t.Helper()
	before := p.x.List()
	if id, err := p.mobilise(action, parent, api.Packet{Poll: 6}, from, 5); id != 0 || err != want {
		p.t.Fatalf("Mobilise(%d, %d) is %d, %d, not 0, %d", action, parent, id, err, want)
	}
	if !slices.Equal(p.x.List(), before) {
		p.t.Fatalf("it became %+v", p.x.List())
	}
}

// P12.7: no other action mobilises anything; that is said ahead of all else.
func TestMobiliseAction(t *testing.T) {
	for _, x := range []*pair{pairOf(t), pairOf(t, of(api.KindPool, 1)), pairOf(t, servers(16, 1)...)} {
		for _, action := range []int{least, -1, assoc.None, assoc.Answer, assoc.Process, assoc.Manycast, 7, 8, 9, 1<<32 + 3, greatest} {
			for _, parent := range []int{-1, 0, 1, 2, 17} {
				for _, from := range []uint32{1, 99} {
					x.immobile(action, parent, from, api.ErrArg)
				}
			}
		}
	}
}

// P12.7: what Active and Listen mobilise, whole; parent does not count, whatever it is.
func TestMobiliseTold(t *testing.T) {
	for action, kind := range map[int]int{assoc.Active: api.KindPassive, assoc.Listen: api.KindListen} {
		for _, parent := range append([]int{1, 2, 3}, noNumbers...) {
			x := pairOf(t, api.Assoc{Kind: api.KindPool, Addr: 1, Key: 44, MinPoll: 7, MaxPoll: 8}, server(2))
			q := api.Packet{Poll: 6, KeyID: 7, Stratum: 5, Mode: 2, Precision: 9}
			id, err := x.mobilise(action, parent, q, 21, 100)
			want := assoc.Entry{ID: 3, Assoc: api.Assoc{Kind: kind, Addr: 21, Key: 7, MinPoll: 6, MaxPoll: 10}, Ends: 4196}
			if id != 3 || err != api.OK || x.entry(3) != want {
				t.Errorf("action %d, parent %d: %d, %+v", action, parent, err, x.x.List())
			}
		}
	}
}

// P12.7: the packet's Poll, cut at both ends, and its KeyID as it is.
func TestMobiliseFields(t *testing.T) {
	polls := map[int]int{least: 3, -128: 3, -1: 3, 0: 3, 2: 3, 3: 3, 4: 4, 5: 5, 6: 6, 7: 7, 8: 8, 9: 9, 10: 10, 11: 10, 127: 10, greatest: 10}
	for poll, want := range polls {
		for _, key := range []int{least, -1, 0, 1, 65535, greatest} {
			for _, action := range []int{assoc.Active, assoc.Listen} {
				x := pairOf(t)
				x.mobilise(action, 0, api.Packet{Poll: poll, KeyID: key}, 21, 0)
				if a := x.entry(1).Assoc; a.MinPoll != want || a.MaxPoll != 10 || a.Key != key || a.Iburst {
					t.Errorf("Poll %d, key %d: %+v", poll, key, a)
				}
			}
		}
	}
}

// P12.7: what was found is as its search is, but for what that alone has; what the packet says does not count.
func TestMobiliseFound(t *testing.T) {
	for _, kind := range []int{api.KindPool, api.KindManycast} {
		for _, q := range []api.Packet{{}, {Poll: 5, KeyID: 9, Stratum: 3, Mode: 4}} {
			for _, search := range []api.Assoc{whole(kind, 8), {Kind: kind, Addr: 8}, {Kind: kind, Addr: 8, Key: 3, MinPoll: 4, MaxPoll: 6}} {
				x := pairOf(t, server(1), search, of(kind, 9))
				id, err := x.mobilise(assoc.Found, 2, q, 21, 5)
				found := api.Assoc{Kind: api.KindFound, Addr: 21, Key: search.Key, MinPoll: search.MinPoll, MaxPoll: search.MaxPoll, Iburst: true}
				want := assoc.Entry{ID: 4, Assoc: found, Parent: 2, Ends: 4101}
				if id != 4 || err != api.OK || x.entry(4) != want {
					t.Errorf("%d: %+v", err, x.x.List())
				}
				x.drop(2)
				x.has(1, 3)
			}
		}
	}
}

// P12.7: a parent of each Kind, and none: only a search finds.
func TestMobiliseParent(t *testing.T) {
	for _, kind := range kinds {
		x := pairOf(t, server(1), of(kind, 2), server(3))
		for _, parent := range append([]int{1, 3, 4, 16}, noNumbers...) {
			x.immobile(assoc.Found, parent, 21, api.ErrNone)
		}
		if kind == api.KindPool || kind == api.KindManycast {
			x.mobilise(assoc.Found, 2, api.Packet{}, 21, 0)
			x.has(1, 2, 3, 4)
			x.immobile(assoc.Found, 4, 22, api.ErrNone)
			x.drop(2)
		}
		x.immobile(assoc.Found, 2, 21, api.ErrNone)
	}
}

// P12.7: what Add refuses is refused, ErrNone ahead of it, ErrTwice ahead of ErrFull.
func TestMobiliseAsAdd(t *testing.T) {
	full := pairOf(t, append(servers(14, 1), of(api.KindPool, 50), of(api.KindClock, 70))...)
	room := pairOf(t, server(1), of(api.KindPool, 50), of(api.KindClock, 70))
	for _, action := range []int{assoc.Active, assoc.Listen, assoc.Found} {
		for x, parent := range map[*pair]int{full: 15, room: 2} {
			x.immobile(action, parent, 1, api.ErrTwice)
			x.immobile(action, parent, 50, api.ErrTwice)
		}
		full.immobile(action, 15, 70, api.ErrFull)
		full.immobile(action, 15, 99, api.ErrFull)
		if id, err := room.mobilise(action, 2, api.Packet{}, 70, 0); id != 4 || err != api.OK {
			t.Errorf("beside a clock's unit: %d, %d", id, err)
		}
		room.drop(4)
	}
	for _, parent := range []int{1, 16, 0, 17} {
		full.immobile(assoc.Found, parent, 1, api.ErrNone)
	}
}

// P12.7: from whomever, at whatever second, at the least number that is free.
func TestMobiliseAnywhere(t *testing.T) {
	for _, from := range append(append([]uint32{0}, singles...), crowds...) {
		for _, action := range []int{assoc.Active, assoc.Listen, assoc.Found} {
			for _, k := range moments {
				x := pairOf(t, of(api.KindManycast, 77), server(78), server(79))
				x.drop(2)
				id, err := x.mobilise(action, 1, api.Packet{}, from, k.now)
				if e := x.entry(2); id != 2 || err != api.OK || e.Ends != k.later || e.Assoc.Addr != from || x.x.Find(from) != 2 {
					t.Fatalf("action %d from %d: %d, %d, %+v", action, from, id, err, e)
				}
			}
		}
	}
}

// R3: the packet is not changed.
func TestMobiliseChangesNoPacket(t *testing.T) {
	made := func() api.Packet {
		return api.Packet{Poll: 99, KeyID: 4, Exts: []api.Ext{{Type: 1, Data: []byte{2}}}, MAC: []byte{1, 2}}
	}
	q := made()
	x := pairOf(t, of(api.KindPool, 1))
	for i, action := range []int{assoc.Active, assoc.Listen, assoc.Found} {
		x.mobilise(action, 1, q, uint32(10+i), 0)
	}
	if x.has(1, 2, 3, 4); !reflect.DeepEqual(q, made()) {
		t.Errorf("it became %+v", q)
	}
}
