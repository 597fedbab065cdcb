package conf_test

import (
	"bytes"
	"math"
	"math/big"
	"math/rand/v2"
	"reflect"
	"regexp"
	"slices"
	"testing"

	"foliot/api"
	"foliot/conf"
)

// thousandths is m thousandths of a second, divided down.
func thousandths(m int) api.Span {
	product := new(big.Int).Mul(big.NewInt(int64(m)), big.NewInt(1<<32))
	return api.Span(new(big.Int).Div(product, big.NewInt(1000)).Int64())
}

// copied is c with memory of its own.
func copied(c api.Config) api.Config {
	c.Assocs = slices.Clone(c.Assocs)
	c.Keys = slices.Clone(c.Keys)
	for i := range c.Keys {
		c.Keys[i].Bytes = bytes.Clone(c.Keys[i].Bytes)
	}
	c.Trusted = slices.Clone(c.Trusted)
	c.Rules = slices.Clone(c.Rules)
	c.Stats = slices.Clone(c.Stats)
	return c
}

// same tells whether two configurations say the same: a list without elements may be nil or not.
func same(a, b api.Config) bool {
	sameKey := func(k, l api.Key) bool { return k.ID == l.ID && k.Kind == l.Kind && bytes.Equal(k.Bytes, l.Bytes) }
	if !slices.Equal(a.Assocs, b.Assocs) || !slices.EqualFunc(a.Keys, b.Keys, sameKey) || !slices.Equal(a.Trusted, b.Trusted) ||
		!slices.Equal(a.Rules, b.Rules) || !slices.Equal(a.Stats, b.Stats) {
		return false
	}
	a.Assocs, a.Keys, a.Trusted, a.Rules, a.Stats = b.Assocs, b.Keys, b.Trusted, b.Rules, b.Stats
	return reflect.DeepEqual(a, b)
}

// The places of whole's associations.
const (
	theServer = iota
	thePeer
	theBroadcast
	thePool
	theManycast
	theClock
)

// whole is a configuration with something of everything.
func whole() api.Config {
	c := conf.Default()
	c.Assocs = []api.Assoc{
		{Kind: api.KindServer, Addr: 0x0A000001, Key: 5, MinPoll: 4, MaxPoll: 9, Burst: true, Iburst: true, Prefer: true},
		{Kind: api.KindPeer, Addr: 0x0A000002, MinPoll: 6, MaxPoll: 10},
		{Kind: api.KindBroadcast, Addr: 0xE0000101, MinPoll: 6, MaxPoll: 6, TTL: 127},
		{Kind: api.KindPool, Addr: 0x0A000003, Key: 65535, MinPoll: 3, MaxPoll: 10},
		{Kind: api.KindManycast, Addr: 0xEFFFFFFF, MinPoll: 10, MaxPoll: 10, TTL: 1},
		{Kind: api.KindClock, Addr: 0, MinPoll: 3, MaxPoll: 3, Prefer: true, Pulse: true, Fudge: -21474837, Stratum: 15},
		{Kind: api.KindClock, Addr: 3, MinPoll: 3, MaxPoll: 3},
	}
	c.Keys = []api.Key{
		{ID: 5, Kind: api.KeySHA, Bytes: []byte{0, 255}},
		{ID: 65535, Kind: api.KeyCMAC, Bytes: []byte("0123456789abcdef")},
		{ID: 1, Kind: api.KeySHA, Bytes: []byte("0123456789abcdef0123456789abcdef")},
	}
	c.Trusted = []int{65535, 5}
	c.Control = 1
	c.Rules = []api.Rule{{Flags: 96}, {Addr: 10 << 24, Bits: 8}, {Addr: 10 << 24, Bits: 32, Flags: 255}}
	c.Drift = "drift.1_z"
	c.Stats = []string{"peer", "loop"}
	c.Orphan, c.Listen, c.Manycast = 7, true, true
	return c
}

func changed(changes ...func(*api.Config)) api.Config {
	c := whole()
	for _, change := range changes {
		change(&c)
	}
	return c
}

func holdCheck(t *testing.T, call string, c api.Config, want api.Errno) {
	t.Helper()
	before := copied(c)
	if got := conf.Check(c); got != want {
		t.Errorf("Check of %s is %v, not %v", call, got, want)
	}
	if !reflect.DeepEqual(c, before) {
		t.Errorf("Check of %s changed it", call)
	}
}

// P5.3
func TestDefault(t *testing.T) {
	want := api.Config{Step: 549755813, Panic: 4294967296000, Stepout: 300, Average: 3, Minimum: 2}
	if got := conf.Default(); !same(got, want) {
		t.Errorf("Default is %v, not %v", got, want)
	}
	holdCheck(t, "Default", conf.Default(), api.OK)
	holdCheck(t, "the whole", whole(), api.OK)
}

// A change is what is done to the whole, and what Check then answers.
type change struct {
	call string
	do   func(*api.Config)
	want api.Errno
}

func holdChanges(t *testing.T, list []change) {
	t.Helper()
	for _, one := range list {
		holdCheck(t, one.call, changed(one.do), one.want)
	}
}

func assoc(at int, do func(*api.Assoc)) func(*api.Config) {
	return func(c *api.Config) { do(&c.Assocs[at]) }
}

func addr(at int, a uint32) func(*api.Config) {
	return assoc(at, func(x *api.Assoc) { x.Addr = a })
}

func polls(at, least, most int) func(*api.Config) {
	return assoc(at, func(x *api.Assoc) { x.MinPoll, x.MaxPoll = least, most })
}

// P5.4, 1
func TestCheckCounts(t *testing.T) {
	servers := func(n int) []api.Assoc {
		var l []api.Assoc
		for i := range n {
			l = append(l, api.Assoc{Kind: api.KindServer, Addr: uint32(i + 1), MinPoll: 6, MaxPoll: 10})
		}
		return l
	}
	keys := func(n int) (l []api.Key, ids []int) {
		for i := range n {
			l = append(l, api.Key{ID: i + 1, Kind: api.KeySHA, Bytes: []byte{1}})
			ids = append(ids, i+1)
		}
		return l, ids
	}
	rules := func(n int) []api.Rule {
		var l []api.Rule
		for i := range n {
			l = append(l, api.Rule{Addr: uint32(i), Bits: 32})
		}
		return l
	}
	for n, want := range map[int]api.Errno{0: api.OK, 16: api.OK, 17: api.ErrMany, 1000: api.ErrMany} {
		c := conf.Default()
		c.Assocs = servers(n)
		holdCheck(t, "servers", c, want)
		c = conf.Default()
		c.Keys, _ = keys(n)
		holdCheck(t, "keys", c, want)
	}
	c := conf.Default()
	c.Keys, c.Trusted = keys(16)
	holdCheck(t, "16 trusted", c, api.OK)
	c.Trusted = append(c.Trusted, 1)
	holdCheck(t, "17 trusted, one of them twice", c, api.ErrMany)
	c = conf.Default()
	c.Rules = rules(32)
	holdCheck(t, "32 rules", c, api.OK)
	c.Rules = rules(33)
	holdCheck(t, "33 rules", c, api.ErrMany)
	c = conf.Default()
	c.Stats = []string{"clock", "loop", "peer"}
	holdCheck(t, "3 statistics", c, api.OK)
	c.Stats = append(c.Stats, "loop")
	holdCheck(t, "4 statistics", c, api.ErrMany)
	c = changed(func(c *api.Config) { c.Assocs[0].Kind = 0; c.Stats = make([]string, 4) })
	holdCheck(t, "a wrong kind and 4 statistics", c, api.ErrMany)
}

// P5.4, 2: clocks.
func TestCheckClocks(t *testing.T) {
	at := func(do func(*api.Assoc)) func(*api.Config) { return assoc(theClock, do) }
	fudge := func(f api.Span) func(*api.Config) { return at(func(a *api.Assoc) { a.Fudge = f }) }
	holdChanges(t, []change{
		{"unit 1", addr(theClock, 1), api.OK},
		{"unit 2", addr(theClock, 2), api.OK},
		{"unit 3", addr(theClock, 3), api.ErrTwice},
		{"unit 4", addr(theClock, 4), api.ErrNumber},
		{"unit 2^32 - 1", addr(theClock, math.MaxUint32), api.ErrNumber},
		{"stratum 0", at(func(a *api.Assoc) { a.Stratum = 0 }), api.OK},
		{"stratum -1", at(func(a *api.Assoc) { a.Stratum = -1 }), api.ErrNumber},
		{"stratum 16", at(func(a *api.Assoc) { a.Stratum = 16 }), api.ErrNumber},
		{"fudge 0", fudge(0), api.OK},
		{"fudge a second", fudge(api.Second), api.OK},
		{"fudge less a second", fudge(-api.Second), api.OK},
		{"fudge 1", fudge(1), api.ErrNumber},
		{"fudge -1", fudge(-1), api.ErrNumber},
		{"fudge -5 thousandths", fudge(-21474837), api.OK},
		{"fudge -5 thousandths, divided up", fudge(-21474836), api.ErrNumber},
		{"fudge 5 thousandths", fudge(21474836), api.OK},
		{"fudge 5 thousandths, divided up", fudge(21474837), api.ErrNumber},
		{"fudge 1001 thousandths", fudge(thousandths(1001)), api.ErrNumber},
		{"fudge -1001 thousandths", fudge(thousandths(-1001)), api.ErrNumber},
		{"fudge MaxSpan", fudge(api.MaxSpan), api.ErrNumber},
		{"fudge the greatest", fudge(math.MaxInt64), api.ErrNumber},
		{"fudge the least", fudge(math.MinInt64), api.ErrNumber},
		{"MinPoll 4", polls(theClock, 4, 3), api.ErrArg},
		{"MaxPoll 4", polls(theClock, 3, 4), api.ErrArg},
		{"MinPoll 2", polls(theClock, 2, 3), api.ErrArg},
		{"MaxPoll 2", polls(theClock, 3, 2), api.ErrArg},
		{"a key", at(func(a *api.Assoc) { a.Key = 5 }), api.ErrArg},
		{"TTL 1", at(func(a *api.Assoc) { a.TTL = 1 }), api.ErrArg},
		{"TTL -1", at(func(a *api.Assoc) { a.TTL = -1 }), api.ErrArg},
		{"Burst", at(func(a *api.Assoc) { a.Burst = true }), api.ErrArg},
		{"Iburst", at(func(a *api.Assoc) { a.Iburst = true }), api.ErrArg},
		{"no Prefer", at(func(a *api.Assoc) { a.Prefer = false }), api.OK},
		{"no Pulse", at(func(a *api.Assoc) { a.Pulse = false }), api.OK},
		{"unit 4 and Burst", at(func(a *api.Assoc) { a.Addr, a.Burst = 4, true }), api.ErrNumber},
		{"fudge 1 and Burst", at(func(a *api.Assoc) { a.Fudge, a.Burst = 1, true }), api.ErrNumber},
		{"unit 3 and Burst", at(func(a *api.Assoc) { a.Addr, a.Burst = 3, true }), api.ErrArg},
	})
	right := map[api.Span]bool{}
	for m := -1000; m <= 1000; m++ {
		right[thousandths(m)] = true
	}
	for m := -1002; m <= 1002; m++ {
		for off := api.Span(-1); off <= 1; off++ {
			f := thousandths(m) + off
			want := api.ErrNumber
			if right[f] {
				want = api.OK
			}
			holdCheck(t, "a fudge", changed(fudge(f)), want)
		}
	}
}

// P5.4, 2: others than clocks.
func TestCheckOthers(t *testing.T) {
	for kind := -1; kind < 12; kind++ {
		want := api.ErrArg
		if kind == api.KindServer || kind == api.KindPeer {
			want = api.OK
		}
		c := changed(assoc(theServer, func(a *api.Assoc) { a.Kind = kind }))
		if kind < api.KindServer || kind > api.KindClock {
			holdCheck(t, "a wrong kind", c, api.ErrArg)
		} else if got := conf.Check(c); (got == api.OK) != (want == api.OK) {
			t.Errorf("Check of a server as kind %d is %v", kind, got)
		}
	}
	const none, group, groups, everybody = 0, 0xE0000000, 0xEFFFFFFF, math.MaxUint32
	for at, kind := range []int{theServer: api.KindServer, thePeer: api.KindPeer, theBroadcast: api.KindBroadcast, thePool: api.KindPool, theManycast: api.KindManycast} {
		called := kind == api.KindBroadcast || kind == api.KindManycast
		followed := kind == api.KindServer || kind == api.KindPeer
		on := func(do func(*api.Assoc)) func(*api.Config) { return assoc(at, do) }
		want := func(ok bool, err api.Errno) api.Errno {
			if ok {
				return api.OK
			}
			return err
		}
		holdChanges(t, []change{
			{"Pulse", on(func(a *api.Assoc) { a.Pulse = true }), api.ErrArg},
			{"Fudge 1", on(func(a *api.Assoc) { a.Fudge = 1 }), api.ErrArg},
			{"Fudge 0.005", on(func(a *api.Assoc) { a.Fudge = 21474836 }), api.ErrArg},
			{"Stratum 1", on(func(a *api.Assoc) { a.Stratum = 1 }), api.ErrArg},
			{"Stratum -1", on(func(a *api.Assoc) { a.Stratum = -1 }), api.ErrArg},
			{"nobody", addr(at, none), api.ErrAddr},
			{"1", addr(at, 1), want(!called, api.ErrAddr)},
			{"the last ahead of groups", addr(at, group-1), want(!called, api.ErrAddr)},
			{"the first group", addr(at, group), want(called, api.ErrAddr)},
			{"the group ahead of the last", addr(at, groups-1), want(called, api.ErrAddr)},
			{"the first behind groups", addr(at, groups+1), want(!called, api.ErrAddr)},
			{"the last but everybody", addr(at, everybody-1), want(!called, api.ErrAddr)},
			{"everybody", addr(at, everybody), want(kind == api.KindBroadcast, api.ErrAddr)},
			{"polls 3 to 10", polls(at, 3, 10), api.OK},
			{"polls 3 to 3", polls(at, 3, 3), api.OK},
			{"polls 10 to 10", polls(at, 10, 10), api.OK},
			{"polls 2 to 10", polls(at, 2, 10), api.ErrNumber},
			{"polls 3 to 11", polls(at, 3, 11), api.ErrNumber},
			{"polls 11 to 11", polls(at, 11, 11), api.ErrNumber},
			{"polls 2 to 2", polls(at, 2, 2), api.ErrNumber},
			{"polls 7 to 6", polls(at, 7, 6), api.ErrNumber},
			{"polls least to greatest", polls(at, math.MinInt, math.MaxInt), api.ErrNumber},
			{"key 1", on(func(a *api.Assoc) { a.Key = 1 }), api.OK},
			{"key 0", on(func(a *api.Assoc) { a.Key = 0 }), api.OK},
			{"key 2", on(func(a *api.Assoc) { a.Key = 2 }), api.ErrNumber},
			{"key -1", on(func(a *api.Assoc) { a.Key = -1 }), api.ErrNumber},
			{"TTL 0", on(func(a *api.Assoc) { a.TTL = 0 }), want(!called, api.ErrNumber)},
			{"TTL 1", on(func(a *api.Assoc) { a.TTL = 1 }), want(called, api.ErrNumber)},
			{"TTL 255", on(func(a *api.Assoc) { a.TTL = 255 }), want(called, api.ErrNumber)},
			{"TTL 256", on(func(a *api.Assoc) { a.TTL = 256 }), api.ErrNumber},
			{"TTL -1", on(func(a *api.Assoc) { a.TTL = -1 }), api.ErrNumber},
			{"Prefer", on(func(a *api.Assoc) { a.Prefer = true }), want(followed, api.ErrArg)},
			{"Burst", on(func(a *api.Assoc) { a.Burst = true }), want(followed, api.ErrArg)},
			{"Iburst", on(func(a *api.Assoc) { a.Iburst = true }), want(followed, api.ErrArg)},
		})
	}
}

// P5.4, 2: addresses twice. A unit and an address are not the same.
func TestCheckAddressesTwice(t *testing.T) {
	holdChanges(t, []change{
		{"a peer with the server's address", addr(thePeer, 0x0A000001), api.ErrTwice},
		{"a pool with the server's address", addr(thePool, 0x0A000001), api.ErrTwice},
		{"manycast with the broadcast's address", addr(theManycast, 0xE0000101), api.ErrTwice},
		{"a server with a unit's number", addr(theServer, 3), api.OK},
		{"a pulse line with the unit of another line", addr(theClock+1, 0), api.ErrTwice},
		{"an address twice, behind it a wrong kind", func(c *api.Config) { c.Assocs[1].Addr = c.Assocs[0].Addr; c.Assocs[2].Kind = 0 }, api.ErrTwice},
		{"an address twice, ahead of it a wrong kind", func(c *api.Config) { c.Assocs[3].Addr = c.Assocs[0].Addr; c.Assocs[2].Kind = 0 }, api.ErrArg},
		{"an address twice, and in the same one a wrong poll", func(c *api.Config) { c.Assocs[3].Addr = c.Assocs[0].Addr; c.Assocs[3].MinPoll = 0 }, api.ErrNumber},
	})
}

// P5.4, 3 and 4: keys, and who speaks of them.
func TestCheckKeys(t *testing.T) {
	key := func(do func(*api.Key)) func(*api.Config) {
		return func(c *api.Config) { do(&c.Keys[2]); c.Control = 0 }
	}
	id := func(n int) func(*api.Config) { return key(func(k *api.Key) { k.ID = n }) }
	size := func(kind, n int) func(*api.Config) {
		return key(func(k *api.Key) { k.Kind, k.Bytes = kind, make([]byte, n) })
	}
	holdChanges(t, []change{
		{"ID 1", id(1), api.OK},
		{"ID 65534", id(65534), api.OK},
		{"ID 0", id(0), api.ErrNumber},
		{"ID -1", id(-1), api.ErrNumber},
		{"ID 65536", id(65536), api.ErrNumber},
		{"ID 65535 twice", id(65535), api.ErrTwice},
		{"ID 5 twice", id(5), api.ErrTwice},
		{"kind 0", size(0, 2), api.ErrArg},
		{"kind 3", size(3, 16), api.ErrArg},
		{"kind -1", size(-1, 16), api.ErrArg},
		{"SHA of 0", size(api.KeySHA, 0), api.ErrNumber},
		{"SHA of 1", size(api.KeySHA, 1), api.OK},
		{"SHA of 16", size(api.KeySHA, 16), api.OK},
		{"SHA of 32", size(api.KeySHA, 32), api.OK},
		{"SHA of 33", size(api.KeySHA, 33), api.ErrNumber},
		{"CMAC of 0", size(api.KeyCMAC, 0), api.ErrNumber},
		{"CMAC of 15", size(api.KeyCMAC, 15), api.ErrNumber},
		{"CMAC of 16", size(api.KeyCMAC, 16), api.OK},
		{"CMAC of 17", size(api.KeyCMAC, 17), api.ErrNumber},
		{"CMAC of 32", size(api.KeyCMAC, 32), api.ErrNumber},
		{"ID 0 and kind 0", key(func(k *api.Key) { k.ID, k.Kind = 0, 0 }), api.ErrNumber},
		{"kind 0 and no bytes", key(func(k *api.Key) { k.Kind, k.Bytes = 0, nil }), api.ErrArg},
		{"no bytes and ID 5 twice", key(func(k *api.Key) { k.ID, k.Bytes = 5, nil }), api.ErrNumber},
		{"a server with a key whose number may not be", func(c *api.Config) { c.Keys[0].ID, c.Assocs[0].Key, c.Trusted = -7, -7, nil }, api.ErrNumber},
		{"trusted 1", func(c *api.Config) { c.Trusted = []int{1} }, api.OK},
		{"trusted 2", func(c *api.Config) { c.Trusted = []int{2} }, api.ErrNumber},
		{"trusted 0", func(c *api.Config) { c.Trusted = []int{0} }, api.ErrNumber},
		{"trusted 5 and 5", func(c *api.Config) { c.Trusted = []int{5, 5} }, api.ErrTwice},
		{"trusted 5, 1, 5", func(c *api.Config) { c.Trusted = []int{5, 1, 5} }, api.ErrTwice},
		{"trusted 2 and 2", func(c *api.Config) { c.Trusted = []int{2, 2} }, api.ErrNumber},
		{"trusted 5, 5, 2", func(c *api.Config) { c.Trusted = []int{5, 5, 2} }, api.ErrTwice},
		{"trusted 5 and 5, control 2", func(c *api.Config) { c.Trusted = []int{5, 5}; c.Control = 2 }, api.ErrTwice},
		{"control 0", func(c *api.Config) { c.Control = 0 }, api.OK},
		{"control 5", func(c *api.Config) { c.Control = 5 }, api.OK},
		{"control 2", func(c *api.Config) { c.Control = 2 }, api.ErrNumber},
		{"control -1", func(c *api.Config) { c.Control = -1 }, api.ErrNumber},
		{"no keys, but 0", func(c *api.Config) { *c = conf.Default() }, api.OK},
	})
}

// P5.4, 5
func TestCheckRules(t *testing.T) {
	rule := func(r api.Rule) func(*api.Config) { return func(c *api.Config) { c.Rules[2] = r } }
	holdChanges(t, []change{
		{"bits -1", rule(api.Rule{Bits: -1}), api.ErrNumber},
		{"bits 33", rule(api.Rule{Bits: 33}), api.ErrNumber},
		{"bits least", rule(api.Rule{Bits: math.MinInt}), api.ErrNumber},
		{"0.0.0.0/0 twice", rule(api.Rule{}), api.ErrTwice},
		{"0.0.0.0/1", rule(api.Rule{Bits: 1}), api.OK},
		{"0.0.0.0/32", rule(api.Rule{Bits: 32}), api.OK},
		{"0.0.0.1/32", rule(api.Rule{Addr: 1, Bits: 32}), api.OK},
		{"0.0.0.1/31", rule(api.Rule{Addr: 1, Bits: 31}), api.ErrAddr},
		{"0.0.0.2/31", rule(api.Rule{Addr: 2, Bits: 31}), api.OK},
		{"0.0.0.1/0", rule(api.Rule{Addr: 1}), api.ErrAddr},
		{"128.0.0.0/0", rule(api.Rule{Addr: 1 << 31}), api.ErrAddr},
		{"128.0.0.0/1", rule(api.Rule{Addr: 1 << 31, Bits: 1}), api.OK},
		{"192.0.0.0/1", rule(api.Rule{Addr: 3 << 30, Bits: 1}), api.ErrAddr},
		{"10.0.0.0/7", rule(api.Rule{Addr: 10 << 24, Bits: 7}), api.OK},
		{"10.0.0.0/6", rule(api.Rule{Addr: 10 << 24, Bits: 6}), api.ErrAddr},
		{"10.0.0.0/8 twice, with other flags", rule(api.Rule{Addr: 10 << 24, Bits: 8, Flags: 1}), api.ErrTwice},
		{"flags 0", rule(api.Rule{Bits: 9}), api.OK},
		{"flags 255", rule(api.Rule{Bits: 9, Flags: 255}), api.OK},
		{"flags 256", rule(api.Rule{Bits: 9, Flags: 256}), api.ErrArg},
		{"flags -1", rule(api.Rule{Bits: 9, Flags: -1}), api.ErrArg},
		{"bits 33 and a bit behind", rule(api.Rule{Addr: 1, Bits: 33}), api.ErrNumber},
		{"a bit behind and flags 256", rule(api.Rule{Addr: 1, Bits: 1, Flags: 256}), api.ErrAddr},
		{"flags 256 and twice", rule(api.Rule{Flags: 256}), api.ErrArg},
	})
}

// P5.4, 6
func TestCheckNames(t *testing.T) {
	for b := range 256 {
		want := api.ErrToken
		if b >= 'a' && b <= 'z' || b >= '0' && b <= '9' || b == '.' || b == '_' {
			want = api.OK
		}
		name := string([]byte{byte(b)})
		for _, drift := range []string{name, "x" + name, name + "x", "xx" + name + "xx"} {
			holdCheck(t, drift, changed(func(c *api.Config) { c.Drift = drift }), want)
		}
	}
	drift := func(s string) func(*api.Config) { return func(c *api.Config) { c.Drift = s } }
	stats := func(l ...string) func(*api.Config) { return func(c *api.Config) { c.Stats = l } }
	holdChanges(t, []change{
		{"no drift", drift(""), api.OK},
		{"24 bytes", drift("abcdefghijklmnopqrstuvwx"), api.OK},
		{"25 bytes", drift("abcdefghijklmnopqrstuvwxy"), api.ErrToken},
		{"no statistics", stats(), api.OK},
		{"loop", stats("loop"), api.OK},
		{"peer", stats("peer"), api.OK},
		{"clock", stats("clock"), api.OK},
		{"all", stats("clock", "peer", "loop"), api.OK},
		{"an empty one", stats(""), api.ErrToken},
		{"Loop", stats("Loop"), api.ErrToken},
		{"loops", stats("loops"), api.ErrToken},
		{"peer and sys", stats("peer", "sys"), api.ErrToken},
		{"peer twice", stats("peer", "peer"), api.ErrTwice},
		{"peer twice, not side by side", stats("peer", "loop", "peer"), api.ErrTwice},
		{"a wrong one twice", stats("x", "x"), api.ErrToken},
		{"peer twice and a wrong one", stats("peer", "peer", "x"), api.ErrTwice},
		{"a wrong drift, peer twice", func(c *api.Config) { c.Drift = "-"; c.Stats = []string{"peer", "peer"} }, api.ErrToken},
	})
}

// P5.4, 7
func TestCheckNumbers(t *testing.T) {
	for _, field := range []struct {
		call        string
		set         func(*api.Config, int)
		least, most int
	}{
		{"Orphan", func(c *api.Config, n int) { c.Orphan = n }, 0, 15},
		{"Step", func(c *api.Config, n int) { c.Step = thousandths(n) }, 1, 10000},
		{"Panic", func(c *api.Config, n int) { c.Panic = api.Span(n) * api.Second }, 1, 100000},
		{"Stepout", func(c *api.Config, n int) { c.Stepout = n }, 0, 10000},
		{"Average", func(c *api.Config, n int) { c.Average = n }, 0, 10},
		{"Minimum", func(c *api.Config, n int) { c.Minimum = n }, 0, 60},
	} {
		for n, want := range map[int]api.Errno{field.least - 1: api.ErrNumber, field.least: api.OK, field.least + 1: api.OK, field.most - 1: api.OK, field.most: api.OK, field.most + 1: api.ErrNumber} {
			holdCheck(t, field.call, changed(func(c *api.Config) { field.set(c, n) }), want)
		}
	}
	right := map[api.Span]bool{}
	for m := 1; m <= 10000; m++ {
		right[thousandths(m)] = true
	}
	for m := -2; m < 10003; m += 1 + max(0, min(6, m-5)) {
		for off := api.Span(-1); off <= 1; off++ {
			want := api.ErrNumber
			if right[thousandths(m)+off] {
				want = api.OK
			}
			holdCheck(t, "a step", changed(func(c *api.Config) { c.Step = thousandths(m) + off }), want)
		}
	}
	for _, n := range []api.Span{math.MinInt64, -api.MaxSpan, -api.Second, -1, 0, 1, api.Second - 1, api.Second + 1, 1000*api.Second - 1, 1000*api.Second + 1, 100000*api.Second + 1, api.MaxSpan, api.MaxSpan + 1, math.MaxInt64} {
		holdCheck(t, "a panic", changed(func(c *api.Config) { c.Panic = n }), api.ErrNumber)
	}
	for _, n := range []api.Span{math.MinInt64, -api.MaxSpan, api.MaxSpan, math.MaxInt64} {
		holdCheck(t, "a step", changed(func(c *api.Config) { c.Step = n }), api.ErrNumber)
	}
	for _, n := range []int{math.MinInt, math.MaxInt} {
		holdChanges(t, []change{
			{"Orphan", func(c *api.Config) { c.Orphan = n }, api.ErrNumber},
			{"Stepout", func(c *api.Config) { c.Stepout = n }, api.ErrNumber},
			{"Average", func(c *api.Config) { c.Average = n }, api.ErrNumber},
			{"Minimum", func(c *api.Config) { c.Minimum = n }, api.ErrNumber},
			{"Key", assoc(theServer, func(a *api.Assoc) { a.Key = n }), api.ErrNumber},
			{"TTL", assoc(theBroadcast, func(a *api.Assoc) { a.TTL = n }), api.ErrNumber},
			{"Stratum", assoc(theClock, func(a *api.Assoc) { a.Stratum = n }), api.ErrNumber},
			{"Kind", assoc(theClock, func(a *api.Assoc) { a.Kind = n }), api.ErrArg},
		})
	}
}

// P5.4: what comes first of any two, in the order of the seven points and within them.
func TestCheckOrder(t *testing.T) {
	faults := []change{
		{"4 statistics", func(c *api.Config) { c.Stats = append(slices.Clone(c.Stats), "x", "x") }, api.ErrMany},
		{"the server's kind", assoc(theServer, func(a *api.Assoc) { a.Kind = 7 }), api.ErrArg},
		{"the server's pulse", assoc(theServer, func(a *api.Assoc) { a.Pulse = true }), api.ErrArg},
		{"the server's address", addr(theServer, 0xE0000102), api.ErrAddr},
		{"the server's polls", polls(theServer, 2, 10), api.ErrNumber},
		{"the server's key", assoc(theServer, func(a *api.Assoc) { a.Key = 99 }), api.ErrNumber},
		{"the server's TTL", assoc(theServer, func(a *api.Assoc) { a.TTL = 5 }), api.ErrNumber},
		{"the pool's address", addr(thePool, 0), api.ErrAddr},
		{"the pool's polls", polls(thePool, 3, 11), api.ErrNumber},
		{"the pool's preference", assoc(thePool, func(a *api.Assoc) { a.Prefer = true }), api.ErrArg},
		{"the clock's stratum", assoc(theClock, func(a *api.Assoc) { a.Stratum = 16 }), api.ErrNumber},
		{"the clock's key", assoc(theClock, func(a *api.Assoc) { a.Key = 1 }), api.ErrArg},
		{"a unit twice", addr(theClock+1, 0), api.ErrTwice},
		{"the third key's ID", func(c *api.Config) { c.Keys[2].ID = 0 }, api.ErrNumber},
		{"the third key's kind", func(c *api.Config) { c.Keys[2].Kind = 0 }, api.ErrArg},
		{"the third key's bytes", func(c *api.Config) { c.Keys[2].Bytes = nil }, api.ErrNumber},
		{"a key trusted twice", func(c *api.Config) { c.Trusted = []int{5, 5} }, api.ErrTwice},
		{"the control key", func(c *api.Config) { c.Control = 9 }, api.ErrNumber},
		{"a rule's address", func(c *api.Config) { c.Rules[0].Addr = 1 }, api.ErrAddr},
		{"a rule's flags", func(c *api.Config) { c.Rules[0].Flags = 256 }, api.ErrArg},
		{"a rule twice", func(c *api.Config) { c.Rules[2].Bits = 8 }, api.ErrTwice},
		{"a rule's bits", func(c *api.Config) { c.Rules = append(slices.Clone(c.Rules), api.Rule{Bits: 33}) }, api.ErrNumber},
		{"the drift file", func(c *api.Config) { c.Drift = "A" }, api.ErrToken},
		{"a statistic twice", func(c *api.Config) { c.Stats = append(slices.Clone(c.Stats), c.Stats[0]) }, api.ErrTwice},
		{"the orphan stratum", func(c *api.Config) { c.Orphan = 16 }, api.ErrNumber},
	}
	for i, first := range faults {
		holdCheck(t, first.call, changed(first.do), first.want)
		for _, second := range faults[i+1:] {
			holdCheck(t, first.call+", "+second.call, changed(first.do, second.do), first.want)
			holdCheck(t, second.call+", "+first.call, changed(second.do, first.do), first.want)
		}
	}
}

// A judge finds the first error of those that it is told of.
type judge struct{ found api.Errno }

func (j *judge) unless(ok bool, err api.Errno) {
	if !ok && j.found == api.OK {
		j.found = err
	}
}

var (
	nameForm = regexp.MustCompile(`^[a-z0-9._]{0,24}$`)
	statForm = regexp.MustCompile(`^(loop|peer|clock)$`)
	// isThousandths has the spans that are whole thousandths, with their numbers.
	isThousandths = func() map[api.Span]int {
		m := map[api.Span]int{}
		for n := -2000; n <= 11000; n++ {
			m[thousandths(n)] = n
		}
		return m
	}()
)

func whole1000(s api.Span, least, most int) bool {
	m, ok := isThousandths[s]
	return ok && m >= least && m <= most
}

// judged is what P5.4 says, sentence by sentence.
func judged(c api.Config) api.Errno {
	j := &judge{}
	j.unless(len(c.Assocs) <= 16 && len(c.Keys) <= 16 && len(c.Trusted) <= 16 && len(c.Rules) <= 32 && len(c.Stats) <= 3, api.ErrMany)
	ids := map[int]int{}
	for _, k := range c.Keys {
		ids[k.ID]++
	}
	clocks, others := map[uint32]int{}, map[uint32]int{}
	for _, a := range c.Assocs {
		judgeAssoc(j, a, ids)
		addrs := others
		if a.Kind == api.KindClock {
			addrs = clocks
		}
		j.unless(addrs[a.Addr] == 0, api.ErrTwice)
		addrs[a.Addr]++
	}
	ahead := map[int]int{}
	for _, k := range c.Keys {
		j.unless(k.ID > 0 && k.ID < 65536, api.ErrNumber)
		j.unless(k.Kind == 1 || k.Kind == 2, api.ErrArg)
		j.unless(len(k.Bytes) > 0 && len(k.Bytes) < 33 && (k.Kind == 1 || len(k.Bytes) == 16), api.ErrNumber)
		j.unless(ahead[k.ID] == 0, api.ErrTwice)
		ahead[k.ID]++
	}
	trusted := map[int]int{}
	for _, id := range c.Trusted {
		j.unless(ids[id] > 0, api.ErrNumber)
		j.unless(trusted[id] == 0, api.ErrTwice)
		trusted[id]++
	}
	j.unless(c.Control == 0 || ids[c.Control] > 0, api.ErrNumber)
	ranges := map[[2]int]int{}
	for _, r := range c.Rules {
		j.unless(r.Bits >= 0 && r.Bits <= 32, api.ErrNumber)
		j.unless(r.Bits < 0 || r.Bits > 32 || uint64(r.Addr)%(1<<(32-r.Bits)) == 0, api.ErrAddr)
		j.unless(r.Flags >= 0 && r.Flags <= 255, api.ErrArg)
		at := [2]int{int(r.Addr), r.Bits}
		j.unless(ranges[at] == 0, api.ErrTwice)
		ranges[at]++
	}
	j.unless(nameForm.MatchString(c.Drift), api.ErrToken)
	stats := map[string]int{}
	for _, s := range c.Stats {
		j.unless(statForm.MatchString(s), api.ErrToken)
		j.unless(stats[s] == 0, api.ErrTwice)
		stats[s]++
	}
	j.unless(c.Orphan >= 0 && c.Orphan < 16 && whole1000(c.Step, 1, 10000), api.ErrNumber)
	j.unless(c.Panic%api.Second == 0 && c.Panic >= api.Second && c.Panic <= 100000*api.Second, api.ErrNumber)
	j.unless(c.Stepout >= 0 && c.Stepout <= 10000 && c.Average >= 0 && c.Average <= 10 && c.Minimum >= 0 && c.Minimum <= 60, api.ErrNumber)
	return j.found
}

func judgeAssoc(j *judge, a api.Assoc, ids map[int]int) {
	j.unless(a.Kind >= 1 && a.Kind <= 6, api.ErrArg)
	if a.Kind == 6 {
		j.unless(a.Addr <= 3 && a.Stratum >= 0 && a.Stratum <= 15 && whole1000(a.Fudge, -1000, 1000), api.ErrNumber)
		a.Addr, a.Stratum, a.Fudge, a.Pulse, a.Prefer = 0, 0, 0, false, false
		j.unless(a == api.Assoc{Kind: 6, MinPoll: 3, MaxPoll: 3}, api.ErrArg)
		return
	}
	j.unless(!a.Pulse && a.Fudge == 0 && a.Stratum == 0, api.ErrArg)
	group := a.Addr >= 224<<24 && a.Addr < 240<<24
	j.unless(map[int]bool{3: group || a.Addr == math.MaxUint32, 5: group}[a.Kind] || a.Kind != 3 && a.Kind != 5 && !group && a.Addr != 0 && a.Addr != math.MaxUint32, api.ErrAddr)
	j.unless(a.MinPoll >= 3 && a.MaxPoll <= 10 && a.MinPoll <= a.MaxPoll, api.ErrNumber)
	j.unless(a.Key == 0 || ids[a.Key] > 0, api.ErrNumber)
	j.unless(map[bool]bool{true: a.TTL >= 1 && a.TTL <= 255, false: a.TTL == 0}[a.Kind == 3 || a.Kind == 5], api.ErrNumber)
	j.unless(a.Kind < 3 || !a.Prefer && !a.Burst && !a.Iburst, api.ErrArg)
}

// drawnAssoc is one that may be, if the keys 1 to keys are there.
func drawnAssoc(r *rand.Rand, keys int) api.Assoc {
	a := api.Assoc{Kind: 1 + r.IntN(6), Addr: 1 + r.Uint32()%0xDFFFFFFF, MinPoll: 3 + r.IntN(4), Key: r.IntN(keys + 1)}
	a.MaxPoll = a.MinPoll + r.IntN(5)
	switch a.Kind {
	case api.KindServer, api.KindPeer:
		a.Burst, a.Iburst, a.Prefer = r.IntN(2) == 0, r.IntN(2) == 0, r.IntN(2) == 0
	case api.KindBroadcast, api.KindManycast:
		a.Addr = 224<<24 | r.Uint32()>>4
		a.TTL = 1 + r.IntN(255)
	case api.KindClock:
		a = api.Assoc{Kind: 6, Addr: uint32(r.IntN(4)), MinPoll: 3, MaxPoll: 3, Prefer: r.IntN(2) == 0, Pulse: r.IntN(2) == 0, Stratum: r.IntN(16), Fudge: thousandths(r.IntN(2001) - 1000)}
	}
	return a
}

// drawnConfig is one that may be, most of the time.
func drawnConfig(r *rand.Rand) api.Config {
	c := conf.Default()
	keys := r.IntN(5)
	for i := range keys {
		k := api.Key{ID: i + 1, Kind: api.KeySHA, Bytes: make([]byte, 1+r.IntN(32))}
		if r.IntN(2) == 0 {
			k.Kind, k.Bytes = api.KeyCMAC, make([]byte, 16)
		}
		for j := range k.Bytes {
			k.Bytes[j] = byte(r.IntN(256))
		}
		c.Keys = append(c.Keys, k)
	}
	r.Shuffle(keys, func(i, j int) { c.Keys[i], c.Keys[j] = c.Keys[j], c.Keys[i] })
	for range r.IntN(4) {
		c.Assocs = append(c.Assocs, drawnAssoc(r, keys))
	}
	for _, i := range r.Perm(keys) {
		if r.IntN(2) == 0 {
			c.Trusted = append(c.Trusted, i+1)
		}
	}
	c.Control = r.IntN(keys + 1)
	for range r.IntN(4) {
		bits := r.IntN(33)
		c.Rules = append(c.Rules, api.Rule{Addr: r.Uint32() &^ (math.MaxUint32 >> bits), Bits: bits, Flags: r.IntN(256)})
	}
	c.Drift = pick(r, "", "", "d", "drift.0_9", "abcdefghijklmnopqrstuvwx")
	for _, i := range r.Perm(3)[:r.IntN(4)] {
		c.Stats = append(c.Stats, []string{"loop", "peer", "clock"}[i])
	}
	c.Orphan, c.Listen, c.Manycast = r.IntN(16), r.IntN(2) == 0, r.IntN(2) == 0
	c.Step, c.Panic = thousandths(1+r.IntN(10000)), api.Span(1+r.IntN(100000))*api.Second
	c.Stepout, c.Average, c.Minimum = r.IntN(10001), r.IntN(11), r.IntN(61)
	return c
}

// spoilt is c with one of its numbers and texts changed to one at an edge.
func spoilt(r *rand.Rand, c api.Config) api.Config {
	n := pick(r, math.MinInt, -2, -1, 0, 1, 2, 3, 4, 5, 6, 7, 10, 11, 15, 16, 17, 32, 33, 60, 61, 255, 256, 10000, 10001, 65535, 65536, math.MaxInt)
	span := pick(r, 0, 1, -1, thousandths(n%20000), thousandths(n%20000)+1, api.Second*api.Span(n%200000), api.MaxSpan, math.MinInt64)
	address := pick[uint32](r, 0, 1, 2, 3, 4, 0xDFFFFFFF, 0xE0000000, 0xEFFFFFFF, 0xF0000000, math.MaxUint32)
	text := pick(r, "", "loop", "peer", "clock", "x", "A", "a b", "abcdefghijklmnopqrstuvwxy")
	numbers := []*int{&c.Control, &c.Orphan, &c.Stepout, &c.Average, &c.Minimum}
	spans := []*api.Span{&c.Step, &c.Panic}
	texts := []*string{&c.Drift}
	var addrs []*uint32
	var flags []*bool
	for i := range c.Assocs {
		a := &c.Assocs[i]
		numbers = append(numbers, &a.Kind, &a.Kind, &a.MinPoll, &a.MaxPoll, &a.Key, &a.TTL, &a.Stratum)
		spans = append(spans, &a.Fudge)
		addrs = append(addrs, &a.Addr)
		flags = append(flags, &a.Burst, &a.Iburst, &a.Prefer, &a.Pulse)
	}
	for i := range c.Keys {
		numbers = append(numbers, &c.Keys[i].ID, &c.Keys[i].Kind)
		if r.IntN(8) == 0 {
			c.Keys[i].Bytes = make([]byte, r.IntN(35))
		}
	}
	for i := range c.Trusted {
		numbers = append(numbers, &c.Trusted[i])
	}
	for i := range c.Rules {
		numbers = append(numbers, &c.Rules[i].Bits, &c.Rules[i].Flags)
		addrs = append(addrs, &c.Rules[i].Addr)
	}
	for i := range c.Stats {
		texts = append(texts, &c.Stats[i])
	}
	switch r.IntN(5) {
	case 0, 1:
		*pick(r, numbers...) = n
	case 2:
		*pick(r, spans...) = span
	case 3:
		*pick(r, texts...) = text
	case 4:
		if len(addrs) > 0 {
			*pick(r, addrs...) = address
		}
		if len(flags) > 0 {
			*pick(r, flags...) = true
		}
	}
	return c
}

// P5.4 of drawn configurations, right ones and spoilt ones.
func TestCheckOfDrawnConfigs(t *testing.T) {
	r := draws(3)
	counts := map[api.Errno]int{}
	for range 40000 {
		c := drawnConfig(r)
		for range r.IntN(4) {
			c = spoilt(r, c)
		}
		want := judged(c)
		counts[want]++
		if got := conf.Check(c); got != want {
			t.Fatalf("Check of %+v is %v, not %v", c, got, want)
		}
	}
	for _, err := range []api.Errno{api.OK, api.ErrArg, api.ErrNumber, api.ErrAddr, api.ErrToken, api.ErrTwice} {
		if counts[err] < 100 {
			t.Errorf("%v came %d times only", err, counts[err])
		}
	}
}
