package assoc_test

import (
	"slices"
	"testing"

	"foliot/api"
)

func (p *pair) expires(now int, want ...int) {
	p.t.Helper()
	if got := p.expire(now); !slices.Equal(got, want) && len(got)+len(want) > 0 {
		p.t.Fatalf("Expire(%d) is %v, not %v", now, got, want)
	}
}

// P12.3: what is configured, and what was added without a parent, lives on; of what was mobilised Ends is moved.
func TestHeard(t *testing.T) {
	for _, kind := range kinds {
		for _, k := range moments {
			x := pairOf(t, of(kind, 1))
			x.added(of(kind, 2), 0, 500)
			x.added(of(kind, 3), 1, 500)
			for id := 1; id <= 3; id++ {
				if !x.heard(id, k.now) {
					t.Fatalf("there is no %d", id)
				}
			}
			mobilised := kind == api.KindPassive || kind == api.KindListen
			if e := x.entry(1); e.Ends != 0 {
				t.Errorf("what is configured is %+v", e)
			}
			if e := x.entry(2); mobilised && e.Ends != k.later || !mobilised && e.Ends != 0 {
				t.Errorf("kind %d is %+v", kind, e)
			}
			if e := x.entry(3); e.Ends != k.later || e.Parent != 1 || e.Assoc != of(kind, 3) {
				t.Errorf("kind %d with a parent is %+v", kind, e)
			}
		}
	}
}

// P12.3: Heard counts by its own second alone, though an earlier one was later; only that one is heard.
func TestHeardEarlier(t *testing.T) {
	x := pairOf(t)
	x.added(of(api.KindPassive, 1), 0, 1000)
	x.added(of(api.KindPassive, 2), 0, 1000)
	x.heard(1, 10)
	if x.entry(1).Ends != 4106 || x.entry(2).Ends != 5096 {
		t.Errorf("they are %+v", x.x.List())
	}
	x.expires(4106, 1)
}

// P12.3: of a parent that is heard its children are not, and the other way round.
func TestHeardAlone(t *testing.T) {
	x := pairOf(t)
	x.added(of(api.KindPassive, 1), 0, 0)
	x.added(server(2), 1, 0)
	x.heard(1, 50)
	if x.entry(1).Ends != 4146 || x.entry(2).Ends != 4096 {
		t.Errorf("they are %+v", x.x.List())
	}
	x.heard(2, 70)
	if x.entry(1).Ends != 4146 || x.entry(2).Ends != 4166 {
		t.Errorf("they are %+v", x.x.List())
	}
}

// P12.3: a second ahead of Ends, at it, and behind it, at each moment.
func TestExpire(t *testing.T) {
	for _, k := range moments {
		for _, now := range []int{k.later, max(k.later, k.later+1), greatest} {
			x := pairOf(t, server(1))
			x.added(of(api.KindListen, 2), 0, k.now)
			x.expires(least)
			x.expires(k.later - 1)
			x.has(1, 2)
			x.expires(now, 2)
			x.has(1)
			x.expires(now)
		}
	}
}

// P12.3: Ends below 0 count as all others; 0 is none, and what would be 0 is 1.
func TestExpireBelowNought(t *testing.T) {
	x := pairOf(t)
	for i, now := range []int{-5000, -4097, -4096, -4095} {
		x.added(of(api.KindPassive, uint32(i)), 0, now)
	}
	x.expires(-905)
	x.expires(-904, 1)
	x.expires(-2)
	x.expires(0, 2)
	x.expires(1, 3, 4)
	x.has()
}

// P12.3: several at once, some of which stay; their numbers are told once, rising.
func TestExpireSeveral(t *testing.T) {
	x := pairOf(t, servers(3, 1)...)
	for i := range 13 {
		x.added(of(7+i%2, uint32(100+i)), 0, 1000-10*i)
	}
	x.expires(4096 + 879)
	x.expires(4096+900, 14, 15, 16)
	x.heard(10, 2000)
	x.expires(4096+1000, 4, 5, 6, 7, 8, 9, 11, 12, 13)
	x.has(1, 2, 3, 10)
	x.expires(4096 + 1000)
	x.expires(greatest, 10)
	x.has(1, 2, 3)
}

// P12.3: with a parent go its children and theirs, though they end later, and though they have lower numbers.
func TestExpireFamily(t *testing.T) {
	x := pairOf(t, servers(5, 1)...)
	x.added(of(api.KindPassive, 11), 0, 0)
	x.drop(2)
	x.added(server(12), 6, 9000)
	x.drop(4)
	x.added(server(13), 2, 9000)
	x.added(server(14), 5, 9000)
	x.expires(4095)
	x.expires(4096, 2, 4, 6)
	x.has(1, 3, 5, 7)
	x.expires(9000+4096, 7)
	x.has(1, 3, 5)
}

// P12.3: a child that ends goes alone; one that ends with its parent is told once.
func TestExpireChild(t *testing.T) {
	x := pairOf(t, of(api.KindPool, 1))
	x.added(server(2), 1, 0)
	x.added(server(3), 2, 0)
	x.added(server(4), 1, 10)
	x.added(server(5), 4, 0)
	x.expires(4096, 2, 3, 5)
	x.has(1, 4)
	x.expires(4106, 4)
	x.has(1)
}

// R3: what Expire hands out is the caller's.
func TestExpireIsTheCallers(t *testing.T) {
	x := pairOf(t)
	for i := range 16 {
		x.added(of(api.KindPassive, uint32(i)), 0, 10*(i/8))
	}
	l := x.x.Expire(4096)
	x.m.expire(4096)
	for i := range l {
		l[i] = 9
	}
	l = append(l, 9)
	if len(l) != 9 {
		t.Errorf("it is %v", l)
	}
	x.check()
	x.expires(4106, 9, 10, 11, 12, 13, 14, 15, 16)
	if !slices.Equal(l, slices.Repeat([]int{9}, 9)) {
		t.Errorf("it is %v", l)
	}
}

// P12.4: with each TTL from 1 on, over more calls than that, and 1 with all below.
func TestHops(t *testing.T) {
	for ttl := -3; ttl <= 12; ttl++ {
		x := pairOf(t, server(1), api.Assoc{Kind: api.KindManycast, Addr: 2, TTL: ttl})
		want := 0
		for range 40 {
			want++
			if want > ttl {
				want = 1
			}
			if hops, is := x.hops(2); hops != want || !is {
				t.Fatalf("TTL %d: %d, %v, not %d", ttl, hops, is, want)
			}
		}
	}
	for _, ttl := range []int{least, -1 << 32, 1 << 40, greatest} {
		x := pairOf(t, api.Assoc{Kind: api.KindManycast, TTL: ttl})
		for i := 1; i <= 300; i++ {
			want := 1
			if ttl > 0 {
				want = i
			}
			if hops, is := x.hops(1); hops != want || !is {
				t.Fatalf("TTL %d: %d, %v, not %d", ttl, hops, is, want)
			}
		}
	}
}

// P12.4: no other Kind has any, and that it is asked changes nothing.
func TestHopsOfOtherKinds(t *testing.T) {
	for _, kind := range kinds {
		x := pairOf(t, api.Assoc{Kind: kind, TTL: 5})
		for range 3 {
			if hops, is := x.hops(1); kind != api.KindManycast && (hops != 0 || is) {
				t.Errorf("kind %d: %d, %v", kind, hops, is)
			}
		}
	}
}

// P12.4: each has its own; whatever else becomes of it changes none.
func TestHopsApart(t *testing.T) {
	x := pairOf(t, api.Assoc{Kind: api.KindManycast, Addr: 1, TTL: 3}, api.Assoc{Kind: api.KindManycast, Addr: 2, TTL: 4})
	id := x.added(api.Assoc{Kind: api.KindManycast, Addr: 3, TTL: 2}, 1, 0)
	for i, want := range [][3]int{{1, 1, 1}, {2, 2, 2}, {3, 3, 1}, {1, 4, 2}, {2, 1, 1}} {
		for j, hops := range want {
			if got, _ := x.hops(j + 1); got != hops {
				t.Fatalf("call %d of %d: %d, not %d", i, j+1, got, hops)
			}
			x.heard(id, 10)
			x.expire(0)
		}
	}
}

// P12.4: an association that took the number of another one begins at 1, though it be the same again.
func TestHopsOfTakenNumber(t *testing.T) {
	for calls := range 6 {
		a := api.Assoc{Kind: api.KindManycast, Addr: 1, TTL: 4}
		x := pairOf(t, server(9), a)
		for range calls {
			x.hops(2)
		}
		x.drop(2)
		if hops, is := x.hops(2); hops != 0 || is {
			t.Errorf("what is gone has %d", hops)
		}
		if id := x.added(a, 1, 0); id != 2 {
			t.Fatalf("it is %d", id)
		}
		for _, want := range []int{1, 2, 3, 4, 1} {
			if hops, _ := x.hops(2); hops != want {
				t.Errorf("behind %d calls: %d, not %d", calls, hops, want)
			}
		}
		x.expires(4096, 2)
		x.added(a, 0, 0)
		if hops, _ := x.hops(2); hops != 1 {
			t.Errorf("behind its end: %d", hops)
		}
	}
}
