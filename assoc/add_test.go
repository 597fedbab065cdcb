package assoc_test

import (
	"slices"
	"testing"

	"foliot/api"
	"foliot/assoc"
)

func (p *pair) refuses(a api.Assoc, parent int, want api.Errno) {
	p.t.Helper()
	before := p.x.List()
	if id, err := p.add(a, parent, 100); id != 0 || err != want {
		p.t.Fatalf("Add(%+v, %d) is %d, %d, not 0, %d", a, parent, id, err, want)
	}
	if !slices.Equal(p.x.List(), before) {
		p.t.Fatalf("it became %+v", p.x.List())
	}
}

// P12.2: a parent is 0, or a number of the table; an association of any Kind may be one.
func TestAddParent(t *testing.T) {
	for _, kind := range kinds {
		x := pairOf(t, server(1), of(kind, 2), server(3))
		for _, parent := range noNumbers {
			if parent != 0 {
				x.refuses(server(50), parent, api.ErrNone)
			}
		}
		for parent := 4; parent <= 16; parent++ {
			x.refuses(server(50), parent, api.ErrNone)
		}
		for parent := range 4 {
			id := x.added(server(10+uint32(parent)), parent, 100)
			if e := x.entry(id); id != 4+parent || e.Parent != parent {
				t.Errorf("it is %+v", e)
			}
		}
		x.drop(3)
		x.refuses(server(50), 3, api.ErrNone)
	}
}

// P12.2: an association is no parent of its own.
func TestAddOwnParent(t *testing.T) {
	pairOf(t).refuses(server(1), 1, api.ErrNone)
	pairOf(t, servers(3, 1)...).refuses(server(9), 4, api.ErrNone)
}

// P12.2: of what is configured and of what was added alike, two of one Addr are refused just if both are clocks, or neither is.
func TestAddTwice(t *testing.T) {
	for _, a := range kinds {
		for _, b := range kinds {
			configured, later := pairOf(t, server(1), of(a, 5)), pairOf(t, server(1))
			later.added(of(a, 5), 0, 0)
			for _, x := range []*pair{configured, later} {
				if (a == api.KindClock) == (b == api.KindClock) {
					x.refuses(of(b, 5), 0, api.ErrTwice)
					x.refuses(of(b, 5), 1, api.ErrTwice)
					x.drop(2)
				}
				x.added(of(b, 5), 0, 0)
			}
		}
	}
}

// P12.2: 16 find room, whatever they are; none does any more, till one is dropped.
func TestAddFull(t *testing.T) {
	for configured := range 17 {
		x := pairOf(t, servers(configured, 1)...)
		for id := configured + 1; id <= 16; id++ {
			if got := x.added(of(id%10, uint32(100+id)), 0, 50); got != id {
				t.Fatalf("it is %d, not %d", got, id)
			}
		}
		x.refuses(server(99), 0, api.ErrFull)
		x.refuses(of(6, 1), 1, api.ErrFull)
		x.drop(16)
		x.added(server(99), 0, 0)
		x.refuses(server(98), 0, api.ErrFull)
	}
}

// P12.2: where several errors would do, ErrNone, then ErrTwice, then ErrFull.
func TestAddErrorsInOrder(t *testing.T) {
	full, room := pairOf(t, servers(16, 1)...), pairOf(t, servers(3, 1)...)
	for _, parent := range []int{least, -1, 17, greatest} {
		full.refuses(server(1), parent, api.ErrNone)
		full.refuses(server(99), parent, api.ErrNone)
		room.refuses(server(1), parent, api.ErrNone)
		room.refuses(server(99), parent, api.ErrNone)
	}
	for _, parent := range []int{0, 1, 3} {
		full.refuses(server(16), parent, api.ErrTwice)
		full.refuses(server(99), parent, api.ErrFull)
		room.refuses(server(2), parent, api.ErrTwice)
	}
}

// P12.2: the number is the least that is free, wherever others were dropped.
func TestAddLeastNumber(t *testing.T) {
	x := pairOf(t, servers(16, 1)...)
	for _, id := range []int{9, 4, 16, 1, 12} {
		x.drop(id)
	}
	for i, want := range []int{1, 4, 9, 12, 16} {
		if id := x.added(server(uint32(100+i)), 0, 0); id != want {
			t.Errorf("it is %d, not %d", id, want)
		}
	}
	for id := 1; id <= 16; id++ {
		x.drop(id)
		if got := x.added(server(uint32(200+id)), 0, 0); got != id {
			t.Errorf("it is %d, not %d", got, id)
		}
	}
}

// P12.2: Ends of each Kind, without a parent and with one, at each moment.
func TestAddEnds(t *testing.T) {
	for _, kind := range kinds {
		for _, k := range moments {
			x := pairOf(t, server(1))
			always, ends := x.entry(x.added(of(kind, 2), 0, k.now)), x.entry(x.added(of(kind, 3), 1, k.now))
			want := 0
			if kind == api.KindPassive || kind == api.KindListen {
				want = k.later
			}
			if always.Ends != want || always.Parent != 0 {
				t.Errorf("kind %d at %d is %+v", kind, k.now, always)
			}
			if ends.Ends != k.later || ends.Parent != 1 {
				t.Errorf("kind %d at %d with a parent is %+v", kind, k.now, ends)
			}
		}
	}
}

// P12.2: what is added is in the table as it was handed in.
func TestAddWhole(t *testing.T) {
	for _, kind := range kinds {
		x := pairOf(t, server(1))
		id := x.added(whole(kind, 2), 1, 0)
		if e := x.entry(id); e != (assoc.Entry{ID: 2, Assoc: whole(kind, 2), Parent: 1, Ends: 4096}) {
			t.Errorf("it is %+v", e)
		}
	}
}

// P12.2: Find does not tell clocks, whatever number they have, and finds the address 0.
func TestFind(t *testing.T) {
	for _, kind := range kinds {
		x := pairOf(t, of(6, 5), of(kind, 0), server(9), of(6, 10))
		want := 2
		if kind == api.KindClock {
			want = 0
		}
		for addr, n := range map[uint32]int{5: 0, 0: want, 9: 3, 10: 0, 1: 0, 2: 0, 3: 0, everybody: 0} {
			if got := x.x.Find(addr); got != n {
				t.Errorf("Find(%d) is %d, not %d", addr, got, n)
			}
		}
		x.added(server(5), 0, 0)
		x.drop(3)
		if x.x.Find(5) != 5 || x.x.Find(9) != 0 {
			t.Errorf("Find(5) is %d, Find(9) is %d", x.x.Find(5), x.x.Find(9))
		}
	}
}

// P12.2: at each number, of each that may be.
func TestFindEach(t *testing.T) {
	x := pairOf(t, servers(16, 0xfffffff0)...)
	for i := range 16 {
		if got := x.x.Find(0xfffffff0 + uint32(i)); got != i+1 {
			t.Errorf("Find is %d, not %d", got, i+1)
		}
	}
}

// P12.2: Get, Drop, Heard and Hops of numbers that none has; nothing changes.
func TestNoSuchNumber(t *testing.T) {
	for _, n := range []int{0, 1, 3, 15, 16} {
		x := pairOf(t, servers(n, 1)...)
		ids := noNumbers
		for id := n + 1; id <= 16; id++ {
			ids = append(ids[:len(ids):len(ids)], id)
		}
		for _, id := range ids {
			if e, is := x.x.Get(id); is || e != (assoc.Entry{}) {
				t.Errorf("Get(%d) of %d is %+v", id, n, e)
			}
			if hops, is := x.hops(id); hops != 0 || is {
				t.Errorf("Hops(%d) of %d is %d", id, n, hops)
			}
			if x.drop(id) || x.heard(id, 5) {
				t.Errorf("there is a %d of %d", id, n)
			}
		}
		if len(x.x.List()) != n {
			t.Errorf("of %d there are %d", n, len(x.x.List()))
		}
	}
}

// P12.2: a search goes with what it found, and with what those have as children; the others stay.
func TestDropFamily(t *testing.T) {
	x := pairOf(t, of(api.KindPool, 1), of(api.KindManycast, 2), server(3))
	for i, parent := range []int{1, 2, 1, 4, 7, 5, 3} {
		if id := x.added(of(api.KindFound, uint32(10+i)), parent, 0); id != 4+i {
			t.Fatalf("it is %d", id)
		}
	}
	x.has(1, 2, 3, 4, 5, 6, 7, 8, 9, 10)
	x.drop(7)
	x.has(1, 2, 3, 4, 5, 6, 9, 10)
	x.drop(1)
	x.has(2, 3, 5, 9, 10)
	if x.drop(1) || x.drop(4) || x.drop(6) {
		t.Error("what is gone is there")
	}
	x.drop(2)
	x.has(3, 10)
	x.drop(10)
	x.has(3)
	x.drop(3)
	x.has()
}

// P12.2: children may have lower numbers than their parents.
func TestDropUpwards(t *testing.T) {
	x := pairOf(t, servers(16, 1)...)
	for id := 15; id >= 1; id-- {
		x.drop(id)
		if got := x.added(server(uint32(100+id)), id+1, 0); got != id {
			t.Fatalf("it is %d, not %d", got, id)
		}
	}
	for _, id := range []int{1, 2, 8} {
		x.drop(id)
	}
	x.has(9, 10, 11, 12, 13, 14, 15, 16)
	x.drop(16)
	x.has()
}

// P12.2: whoever takes a number has none of the children of the one ahead.
func TestDropOfTakenNumber(t *testing.T) {
	x := pairOf(t, of(api.KindPool, 1), server(2))
	x.added(server(3), 1, 0)
	x.drop(1)
	x.has(2)
	x.added(of(api.KindPool, 1), 2, 0)
	x.added(server(3), 2, 0)
	x.has(1, 2, 3)
	x.drop(1)
	x.has(2, 3)
}

// R3: what List hands out is the caller's, with its spare room, and no two lists share any.
func TestListIsTheCallers(t *testing.T) {
	for _, n := range []int{1, 3, 15, 16} {
		x := pairOf(t, servers(n, 1)...)
		l, other := x.x.List(), x.x.List()
		want := slices.Clone(other)
		for i := range l {
			l[i] = assoc.Entry{ID: 99, Assoc: whole(4, 88), Ends: 5}
		}
		l = append(l, assoc.Entry{ID: 98})
		if !slices.Equal(other, want) || len(l) != n+1 {
			t.Errorf("the other list became %+v", other)
		}
		x.check()
		e, _ := x.x.Get(1)
		e.Ends, e.Assoc.Addr = 7, 66
		x.check()
		x.drop(1)
		if !slices.Equal(other, want) {
			t.Errorf("a list became %+v", other)
		}
	}
}
