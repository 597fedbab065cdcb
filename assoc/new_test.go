package assoc_test

import (
	"slices"
	"testing"

	"foliot/api"
	"foliot/assoc"
)

func refused(t *testing.T, l []api.Assoc, want api.Errno) {
	t.Helper()
	if x, err := assoc.New(api.Config{Assocs: l}); x != nil || err != want {
		t.Errorf("New of %+v is %v, %d, not nil, %d", l, x, err, want)
	}
}

// P12.1: none, up to 16 of them, and more.
func TestNewCount(t *testing.T) {
	pairOf(t).has()
	if x, err := assoc.New(api.Config{Assocs: []api.Assoc{}}); err != api.OK || len(x.List()) != 0 {
		t.Errorf("New of an empty list: %d", err)
	}
	for n := 1; n <= 16; n++ {
		x := pairOf(t, servers(n, 7)...)
		want := make([]int, n)
		for i := range want {
			want[i] = i + 1
			if e := x.entry(i + 1); e.Assoc.Addr != uint32(7+i) || e.Ends != 0 || e.Parent != 0 {
				t.Errorf("%d of %d is %+v", i+1, n, e)
			}
		}
		x.has(want...)
	}
	for _, n := range []int{17, 18, 32, 1000} {
		refused(t, servers(n, 7), api.ErrFull)
	}
}

// P12.1: two of one Addr are refused just if both are clocks, or neither is.
func TestNewTwice(t *testing.T) {
	for _, a := range kinds {
		for _, b := range kinds {
			l := []api.Assoc{of(a, 5), of(b, 5)}
			if (a == api.KindClock) == (b == api.KindClock) {
				refused(t, l, api.ErrTwice)
			} else {
				pairOf(t, l...).has(1, 2)
			}
			l[1].Addr = 6
			pairOf(t, l...).has(1, 2)
		}
	}
}

// P12.1: whichever two of 16 they are, and whatever else differs.
func TestNewTwiceAnywhere(t *testing.T) {
	for i := range 16 {
		for j := range i {
			l := servers(16, 1)
			l[i] = api.Assoc{Kind: api.KindPeer, Addr: l[j].Addr, Key: 7, MinPoll: 3, MaxPoll: 9, Prefer: true}
			refused(t, l, api.ErrTwice)
			l[i].Kind = api.KindClock
			pairOf(t, l...)
			l[j].Kind = api.KindClock
			refused(t, l, api.ErrTwice)
		}
	}
}

// P12.1: addresses at their ends are none that are special.
func TestNewAddresses(t *testing.T) {
	for _, addr := range []uint32{0, 1, 1 << 31, 0xe0000101, everybody} {
		refused(t, []api.Assoc{server(addr), server(addr)}, api.ErrTwice)
		refused(t, []api.Assoc{of(6, addr), of(6, addr)}, api.ErrTwice)
		x := pairOf(t, of(6, addr), server(addr))
		if x.x.Find(addr) != 2 {
			t.Errorf("Find(%d) is %d", addr, x.x.Find(addr))
		}
	}
}

// P12.1: with too many of them ErrFull is named first.
func TestNewFullFirst(t *testing.T) {
	refused(t, make([]api.Assoc, 16), api.ErrTwice)
	refused(t, make([]api.Assoc, 17), api.ErrFull)
	l := append(servers(16, 1), server(1))
	refused(t, l, api.ErrFull)
}

// whole has no field that is its zero value.
func whole(kind int, addr uint32) api.Assoc {
	return api.Assoc{Kind: kind, Addr: addr, Key: -3, MinPoll: 99, MaxPoll: -1, Burst: true, Iburst: true, Prefer: true, TTL: 300, Pulse: true, Fudge: -7, Stratum: 44}
}

// P12.1: an association is in the table as it was configured, whatever its Kind; it has no parent, and lives always.
func TestNewWhole(t *testing.T) {
	for _, kind := range kinds {
		x := pairOf(t, server(1), whole(kind, 2))
		want := assoc.Entry{ID: 2, Assoc: whole(kind, 2)}
		for _, k := range moments {
			x.heard(2, k.now)
			x.expire(k.now)
			if e := x.entry(2); e != want {
				t.Fatalf("kind %d is %+v", kind, e)
			}
		}
		if gone := x.expire(greatest); len(gone) != 0 {
			t.Errorf("kind %d: %v are gone", kind, gone)
		}
	}
}

// P12.1: nothing else of a configuration counts.
func TestNewLooksAtAssocsAlone(t *testing.T) {
	c := api.Config{Assocs: servers(2, 1), Listen: true, Manycast: true, Keys: make([]api.Key, 40), Rules: make([]api.Rule, 90), Orphan: -1, Drift: "x"}
	x, err := assoc.New(c)
	if err != api.OK || len(x.List()) != 2 {
		t.Error(err)
	}
}

// R3: c, what it holds, and what lies behind its list may change; the table does not hear of it, and changes none of it.
func TestNewKeepsNothing(t *testing.T) {
	room := servers(20, 1)
	c := api.Config{Assocs: room[:3]}
	x, err := assoc.New(c)
	if err != api.OK || !slices.Equal(room, servers(20, 1)) {
		t.Fatalf("%d: %+v", err, room)
	}
	want := x.List()
	for i := range room {
		room[i] = whole(api.KindPool, 77)
	}
	c.Assocs = nil
	if !slices.Equal(x.List(), want) || x.Find(77) != 0 || x.Find(3) != 3 {
		t.Errorf("it is %+v", x.List())
	}
	x.Add(server(9), 0, 0)
	x.Drop(1)
	for _, a := range room {
		if a != whole(api.KindPool, 77) {
			t.Errorf("what was handed in became %+v", a)
		}
	}
}
