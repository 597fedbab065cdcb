package assoc_test

import (
	"math/rand/v2"
	"reflect"
	"slices"
	"testing"

	"foliot/api"
	"foliot/assoc"
)

// The chapter's examples.
func TestExamples(t *testing.T) {
	refused(t, []api.Assoc{server(5), server(5)}, api.ErrTwice)
	x := pairOf(t, server(5), of(api.KindClock, 5))
	x.has(1, 2)
	if id := x.added(of(api.KindPassive, 7), 0, 100); id != 3 || x.entry(3).Ends != 4196 {
		t.Errorf("it is %+v", x.entry(id))
	}
	x.expires(4195)
	x.expires(4196, 3)
	x.refuses(server(5), 0, api.ErrTwice)
	x.refuses(server(6), 9, api.ErrNone)
	k := sent(api.ModeClient, 9)
	x.routes(k, assoc.Answer, 0)
	k.flags = 1
	x.routes(k, assoc.None, 0)
	k.flags, k.to = 0, 0xe0000101
	x.routes(k, assoc.None, 0)
	x.routes(sent(api.ModeServer, 5), assoc.Process, 1)
	k = sent(api.ModeActive, 8)
	k.flags = 8
	x.routes(k, assoc.None, 0)
	k.flags = 0
	x.routes(k, assoc.Active, 0)
	id := x.added(api.Assoc{Kind: api.KindManycast, TTL: 3}, 0, 0)
	for _, want := range []int{1, 2, 3, 1} {
		if hops, is := x.hops(id); hops != want || !is {
			t.Errorf("Hops is %d, not %d", hops, want)
		}
	}
}

const (
	adds = iota
	drops
	hears
	expires
	hops
	routes
	mobilisesOne
	follows // a packet is routed, and mobilises what it is told to
	sorts   // how many there are
)

// deed is one call, with more arguments than any has.
type deed struct {
	sort, id, parent, now, action int
	a                             api.Assoc
	k                             packet
}

func (p *pair) do(d deed) {
	p.t.Helper()
	switch d.sort {
	case adds:
		p.add(d.a, d.parent, d.now)
	case drops:
		p.drop(d.id)
	case hears:
		p.heard(d.id, d.now)
	case expires:
		p.expire(d.now)
	case hops:
		p.hops(d.id)
	case routes:
		p.route(d.k)
	case mobilisesOne:
		p.mobilise(d.action, d.parent, d.k.p, d.k.from, d.now)
	case follows:
		if action, id := p.route(d.k); action >= assoc.Active && action <= assoc.Found {
			p.mobilise(action, id, d.k.p, d.k.from, d.now)
		}
	}
}

// answers are what the call alone tells, without anything beside it.
func answers(x *assoc.Table, d deed) []any {
	switch d.sort {
	case adds:
		id, err := x.Add(d.a, d.parent, d.now)
		return []any{id, err}
	case drops:
		return []any{x.Drop(d.id)}
	case hears:
		return []any{x.Heard(d.id, d.now)}
	case expires:
		return []any{x.Expire(d.now)}
	case hops:
		n, is := x.Hops(d.id)
		return []any{n, is}
	case mobilisesOne:
		id, err := x.Mobilise(d.action, d.parent, d.k.p, d.k.from, d.now)
		return []any{id, err}
	}
	action, id := x.Route(d.k.c, d.k.p, d.k.from, d.k.to, d.k.flags, d.k.auth)
	return []any{action, id}
}

// oneOf draws one of them.
func oneOf[T any](r *rand.Rand, l ...T) T { return l[r.IntN(len(l))] }

// drawAddr draws an address; there are few, so that some come twice.
func drawAddr(r *rand.Rand) uint32 {
	if r.IntN(4) == 0 {
		return oneOf[uint32](r, 0, 1, 0xdfffffff, 0xe0000000, 0xefffffff, 0xf0000000, everybody)
	}
	return uint32(r.IntN(30))
}

// drawID draws a number, now and then one that none may have.
func drawID(r *rand.Rand) int {
	if r.IntN(12) == 0 {
		return oneOf(r, noNumbers...)
	}
	return 1 + r.IntN(16)
}

func drawAssoc(r *rand.Rand) api.Assoc {
	return api.Assoc{Kind: r.IntN(11), Addr: drawAddr(r), Key: r.IntN(3), MinPoll: r.IntN(12), MaxPoll: r.IntN(12), Prefer: r.IntN(2) == 0, TTL: r.IntN(5) - 1}
}

// drawDeed draws a call at about that second; most drops are of few numbers, and most ends are far off.
func drawDeed(r *rand.Rand, now int) deed {
	d := deed{sort: r.IntN(sorts), id: drawID(r), now: now + r.IntN(5000), action: oneOf(r, 3, 4, 5, 5, r.IntN(9)-1), a: drawAssoc(r)}
	if d.sort == drops && r.IntN(2) == 0 {
		d.sort = follows
	}
	if d.sort == expires && r.IntN(3) == 0 {
		d.sort = mobilisesOne
	}
	if r.IntN(20) == 0 {
		d.now = oneOf(r, moments...).now
	}
	if r.IntN(3) > 0 {
		d.parent = drawID(r)
	}
	d.k = packet{
		c:    api.Config{Listen: r.IntN(3) > 0, Manycast: r.IntN(2) == 0},
		p:    api.Packet{Mode: r.IntN(8), Poll: r.IntN(14) - 1, KeyID: r.IntN(3)},
		from: drawAddr(r), to: drawAddr(r), auth: r.IntN(2) == 0,
	}
	if r.IntN(3) == 0 {
		d.k.flags = r.IntN(256)
	}
	return d
}

// drawConfigured draws up to 16 associations that may be.
func drawConfigured(r *rand.Rand) []api.Assoc {
	var l []api.Assoc
	for range r.IntN(17) {
		a := drawAssoc(r)
		if !slices.ContainsFunc(l, func(b api.Assoc) bool { return one(a) == one(b) }) {
			l = append(l, a)
		}
	}
	return l
}

// apart fails, if there are too many, or two of one address.
func (p *pair) apart() {
	p.t.Helper()
	l := p.x.List()
	if len(l) > 16 {
		p.t.Fatalf("there are %d", len(l))
	}
	for i, e := range l {
		for _, other := range l[:i] {
			if one(e.Assoc) == one(other.Assoc) || e.ID <= other.ID {
				p.t.Fatalf("there are %+v and %+v", other, e)
			}
		}
	}
}

// P12.1 to P12.8: drawn calls of two tables side by side: each tells what its own calls ask.
func TestTablesDrawn(t *testing.T) {
	r := rand.New(rand.NewPCG(12, 1))
	full, families, ended := 0, 0, 0
	for range 300 {
		pairs := []*pair{pairOf(t, drawConfigured(r)...), pairOf(t, drawConfigured(r)...)}
		for i := range 300 {
			x := oneOf(r, pairs...)
			before := len(x.x.List())
			d := drawDeed(r, 40*i)
			x.do(d)
			x.apart()
			if before == 16 {
				full++
			}
			if gone := before - len(x.x.List()); gone > 1 && d.sort == drops {
				families++
			} else if gone > 1 && d.sort == expires {
				ended++
			}
		}
		for _, x := range pairs {
			x.check()
		}
	}
	if full < 1000 || families < 100 || ended < 100 {
		t.Errorf("too few were drawn: %d, %d, %d", full, families, ended)
	}
}

// P12.8: unless it is dropped, what is configured keeps its number, and is what it was, whatever else comes and goes.
func TestConfiguredStays(t *testing.T) {
	r := rand.New(rand.NewPCG(12, 8))
	for range 200 {
		x := pairOf(t, drawConfigured(r)...)
		configured := x.x.List()
		for i := range 200 {
			d := drawDeed(r, 100*i)
			if d.sort == drops && 1 <= d.id && d.id <= len(configured) {
				continue
			}
			x.do(d)
			if l := x.x.List(); !slices.Equal(l[:len(configured)], configured) {
				t.Fatalf("it became %+v", l)
			}
		}
		x.expire(greatest)
		for _, e := range x.x.List()[len(configured):] {
			if e.Ends != 0 || e.Parent != 0 {
				t.Fatalf("%+v did not go", e)
			}
		}
	}
}

// P12.8: what was mobilised goes, once it is heard no more, and not till then; nothing but Add and Mobilise makes one.
func TestUnheardGoes(t *testing.T) {
	x := pairOf(t, of(api.KindPool, 1), server(2))
	for i := range 12 {
		x.mobilise([]int{assoc.Active, assoc.Listen, assoc.Found}[i%3], 1, api.Packet{}, uint32(10+i), 0)
	}
	for now := 0; now < 20000; now += 1000 {
		for id := 3; id <= 14; id += 2 {
			x.heard(id, now)
		}
		x.expire(now)
		k := sent(now/1000%8, uint32(now))
		k.c.Listen = true
		x.route(k)
	}
	x.has(1, 2, 3, 5, 7, 9, 11, 13)
	x.expires(19000 + 4095)
	x.expires(19000+4096, 3, 5, 7, 9, 11, 13)
	x.has(1, 2)
}

// R3: two tables of one configuration know nothing of one another.
func TestTwoTables(t *testing.T) {
	l := []api.Assoc{of(api.KindPool, 1), {Kind: api.KindManycast, Addr: 2, TTL: 3}, server(3)}
	x, other := pairOf(t, l...), pairOf(t, l...)
	x.hops(2)
	x.mobilise(assoc.Found, 1, api.Packet{}, 9, 0)
	x.drop(3)
	other.check()
	other.has(1, 2, 3)
	if n, _ := other.hops(2); n != 1 {
		t.Errorf("Hops is %d", n)
	}
	other.drop(1)
	x.check()
	x.has(1, 2, 4)
}

// R2, R5: the same calls tell the same, on a table beside which others are asked too.
func TestOneAnswer(t *testing.T) {
	r := rand.New(rand.NewPCG(12, 9))
	for range 50 {
		c := api.Config{Assocs: drawConfigured(r)}
		deeds := make([]deed, 200)
		for i := range deeds {
			deeds[i] = drawDeed(r, 40*i)
		}
		if a, b := story(t, c, deeds, false), story(t, c, deeds, true); !reflect.DeepEqual(a, b) {
			t.Fatalf("%+v tells another story", c)
		}
	}
}

func story(t *testing.T, c api.Config, deeds []deed, beside bool) []any {
	x, err := assoc.New(c)
	y, _ := assoc.New(c)
	if err != api.OK {
		t.Fatal(err)
	}
	var l []any
	for _, d := range deeds {
		if beside {
			answers(y, deed{sort: (d.sort + 1) % sorts, id: d.id, now: d.now, action: d.action, a: d.a, k: d.k})
			x.List()
			x.Get(d.id)
			x.Find(d.k.from)
			x.Add(d.a, -1, d.now)
			x.Mobilise(assoc.Found, 0, d.k.p, d.k.from, d.now)
		}
		l = append(l, answers(x, d), x.List())
	}
	return l
}
