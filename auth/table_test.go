package auth_test

import (
	"bytes"
	"math"
	"reflect"
	"slices"
	"testing"

	"foliot/api"
	"foliot/auth"
	"foliot/wire"
)

func table(t *testing.T, keys []api.Key, trusted ...int) *auth.Table {
	t.Helper()
	x, err := auth.New(keys, trusted)
	if err != api.OK || x == nil {
		t.Fatalf("New of %v is %v, %v", keys, x, err)
	}
	return x
}

// threeKeys: 1 and 3 are trusted by those who use them here, 2 is not.
func threeKeys() []api.Key { return []api.Key{shaKey(1, 9), cmacKey(2), cmacKey(3)} }

// exts are fields with Data of so many bytes each.
func exts(counts ...int) []api.Ext {
	var made []api.Ext
	for i, c := range counts {
		made = append(made, api.Ext{Type: i + 1, Data: run(c, i)})
	}
	return made
}

// ask is a plain request.
func ask() api.Packet { return api.Packet{Version: 4, Mode: api.ModeClient, Xmt: 7} }

func but(p api.Packet, change func(p *api.Packet)) api.Packet {
	change(&p)
	return p
}

// full is a packet that has a value in each field that a bare one keeps.
func full() api.Packet {
	return api.Packet{
		Leap: 1, Version: 3, Mode: 4, Stratum: 2, Poll: 6, Precision: -20, Delay: 1 << 20, Disp: 1 << 21, RefID: 5,
		Ref: 6, Org: 7, Rec: 8, Xmt: 9, Exts: exts(24, 28),
	}
}

// plain is p in memory of its own, with nil for each list that has no elements.
func plain(p api.Packet) api.Packet {
	var made []api.Ext
	for _, e := range p.Exts {
		made = append(made, api.Ext{Type: e.Type, Data: append([]byte(nil), e.Data...)})
	}
	p.Exts, p.MAC = made, append([]byte(nil), p.MAC...)
	return p
}

func bare(p api.Packet) api.Packet {
	p.KeyID, p.Nak, p.MAC = 0, false, nil
	return p
}

// P4.8: New has the errors of Print, and no table with them.
func TestNewWrong(t *testing.T) {
	for name, l := range keyLists() {
		for _, trusted := range [][]int{nil, {1}, {0, -1, 70000, 1, 1}} {
			if x, err := auth.New(l.keys, trusted); err != l.want || (x == nil) != (err != api.OK) {
				t.Errorf("New of %s is %v, %v, not %v", name, x, err, l.want)
			}
		}
	}
}

// P4.8: a key that is trusted and had, one of both, none.
func TestTrusts(t *testing.T) {
	x := table(t, threeKeys(), 3, 1, 9, 1, 0, -4, math.MaxInt)
	for id, want := range map[int]bool{
		1: true, 2: false, 3: true, 9: false, 0: false, -4: false, 4: false, 65537: false, 1<<32 + 1: false, math.MaxInt: false, math.MinInt: false,
	} {
		if got := x.Trusts(id); got != want {
			t.Errorf("Trusts(%d) is %v", id, got)
		}
	}
	none, nobody := table(t, threeKeys()), table(t, nil, 1, 2, 3)
	for id := -1; id < 5; id++ {
		if none.Trusts(id) || nobody.Trusts(id) {
			t.Errorf("Trusts(%d) of a table without keys or without trust is true", id)
		}
	}
	var keys []api.Key
	for id := 65535; id > 65519; id-- {
		keys = append(keys, shaKey(id, 32))
	}
	many := make([]int, 70000)
	for i := range many {
		many[i] = i
	}
	all := table(t, keys, many...)
	for id := 65510; id < 65540; id++ {
		if got, want := all.Trusts(id), id > 65519 && id < 65536; got != want {
			t.Errorf("Trusts(%d) of sixteen keys is %v", id, got)
		}
	}
}

// P4.8: Sign asks for a key alone, trusted or not.
func TestSign(t *testing.T) {
	x := table(t, threeKeys(), 1)
	for _, k := range threeKeys() {
		for _, message := range [][]byte{nil, []byte("b"), run(200, 0)} {
			if m, err := x.Sign(k.ID, message); err != api.OK || !bytes.Equal(m, digest(k, message)) {
				t.Errorf("Sign(%d) of %d bytes is %x, %v", k.ID, len(message), m, err)
			}
		}
	}
	for _, id := range []int{0, -1, 4, 65536, 65537, 1<<32 + 1, math.MinInt, math.MaxInt} {
		if m, err := x.Sign(id, []byte("b")); err != api.ErrKey || len(m) > 0 {
			t.Errorf("Sign(%d) is %x, %v", id, m, err)
		}
		if m, err := table(t, nil, id).Sign(id, nil); err != api.ErrKey || len(m) > 0 {
			t.Errorf("Sign(%d) of no keys is %x, %v", id, m, err)
		}
	}
}

// P4.8: the right digest by a trusted key, and whatever else.
func TestVerify(t *testing.T) {
	x := table(t, threeKeys(), 1, 3, 9)
	message := run(50, 4)
	one, two, three := digest(threeKeys()[0], message), digest(threeKeys()[1], message), digest(threeKeys()[2], message)
	check(t, []row[api.Errno]{
		{"the digest by 1", x.Verify(1, message, one), api.OK},
		{"the digest by 3", x.Verify(3, message, three), api.OK},
		{"by 2, that is not trusted", x.Verify(2, message, two), api.ErrKey},
		{"by 2, wrong", x.Verify(2, message, one), api.ErrKey},
		{"by 9, that there is not", x.Verify(9, message, one), api.ErrKey},
		{"by 0", x.Verify(0, message, nil), api.ErrKey},
		{"by -1", x.Verify(-1, nil, nil), api.ErrKey},
		{"by 65537", x.Verify(65537, message, one), api.ErrKey},
		{"another key's digest", x.Verify(3, message, two), api.ErrMAC},
		{"another kind's digest", x.Verify(1, message, three), api.ErrMAC},
		{"no digest", x.Verify(1, message, nil), api.ErrMAC},
		{"one byte fewer", x.Verify(1, message, one[:19]), api.ErrMAC},
		{"16 of its bytes", x.Verify(1, message, one[:16]), api.ErrMAC},
		{"one byte more", x.Verify(3, message, append(slices.Clone(three), 0)), api.ErrMAC},
		{"another message", x.Verify(1, message[1:], one), api.ErrMAC},
		{"no message", x.Verify(1, nil, one), api.ErrMAC},
		{"the digest of no message", x.Verify(1, nil, digest(threeKeys()[0], nil)), api.OK},
	})
	for bit := range 160 {
		wrong := slices.Clone(one)
		wrong[bit/8] ^= 1 << (bit % 8)
		if got := x.Verify(1, message, wrong); got != api.ErrMAC {
			t.Errorf("Verify with another bit %d of the digest is %v", bit, got)
		}
	}
	for bit := range 400 {
		wrong := slices.Clone(message)
		wrong[bit/8] ^= 1 << (bit % 8)
		if got := x.Verify(3, wrong, three); got != api.ErrMAC {
			t.Errorf("Verify with another bit %d of the message is %v", bit, got)
		}
	}
}

// ended are packets with a Nak, a key and a digest, each with each.
func ended(p api.Packet) []api.Packet {
	var made []api.Packet
	for _, nak := range []bool{false, true} {
		for _, key := range []int{0, 1, 5, -1, 65536} {
			for _, count := range []int{0, 16, 20, 3} {
				made = append(made, but(p, func(p *api.Packet) { p.Nak, p.KeyID, p.MAC = nak, key, run(count, 0) }))
			}
		}
	}
	return made
}

// P4.9: with the ID 0 the packet is bare, whatever it was.
func TestSealBare(t *testing.T) {
	x := table(t, threeKeys(), 1)
	packets := append(ended(ask()), ended(full())...)
	packets = append(packets, ended(api.Packet{Version: 9, Mode: -1, Delay: -1, Exts: exts(0, 3, 600, 24, 24, 24, 24)})...)
	for _, p := range packets {
		for _, table := range []*auth.Table{x, table(t, nil)} {
			got, err := table.Seal(p, 0)
			if err != api.OK || got.MAC != nil || !reflect.DeepEqual(plain(got), plain(bare(p))) {
				t.Errorf("Seal of %+v with 0 is %+v, %v", p, got, err)
			}
		}
	}
}

// P4.9: what is sealed has the key and the digest of its message, whatever stood there ahead.
func TestSeal(t *testing.T) {
	x := table(t, threeKeys(), 1, 3)
	for _, p := range append(ended(ask()), ended(full())...) {
		message, err := wire.Message(bare(p))
		if err != api.OK {
			t.Fatal(err)
		}
		for _, k := range threeKeys() {
			want := bare(p)
			want.KeyID, want.MAC = k.ID, digest(k, message)
			got, err := x.Seal(p, k.ID)
			if err != api.OK || !reflect.DeepEqual(plain(got), plain(want)) {
				t.Errorf("Seal of %+v with %d is %+v, %v", p, k.ID, got, err)
			}
		}
	}
}

// P4.9: no key comes ahead of what wire says, and wire speaks of the bare packet.
func TestSealWrong(t *testing.T) {
	x := table(t, threeKeys(), 1, 9)
	form := but(ask(), func(p *api.Packet) { p.Version = 5 })
	many := but(ask(), func(p *api.Packet) { p.Exts = exts(24, 24, 24, 24, 24) })
	long := but(ask(), func(p *api.Packet) { p.Exts = exts(464) })
	sealed := func(p api.Packet, id int) api.Errno {
		got, err := x.Seal(p, id)
		if err != api.OK && !reflect.DeepEqual(got, api.Packet{}) {
			t.Errorf("beside %v Seal answers %+v", err, got)
		}
		return err
	}
	check(t, []row[api.Errno]{
		{"no key 4", sealed(ask(), 4), api.ErrKey},
		{"no key 9, though trusted", sealed(ask(), 9), api.ErrKey},
		{"key -1", sealed(ask(), -1), api.ErrKey},
		{"key 65536", sealed(ask(), 65536), api.ErrKey},
		{"key 65537", sealed(ask(), 65537), api.ErrKey},
		{"key 2^32", sealed(ask(), 1<<32), api.ErrKey},
		{"no key, ErrForm", sealed(form, 4), api.ErrKey},
		{"no key, ErrMany", sealed(many, 4), api.ErrKey},
		{"ErrForm", sealed(form, 1), api.ErrForm},
		{"ErrForm, not trusted", sealed(form, 2), api.ErrForm},
		{"ErrMany", sealed(many, 1), api.ErrMany},
		{"ErrLong", sealed(long, 1), api.ErrLong},
		{"a wrong ending alone", sealed(but(ask(), func(p *api.Packet) { p.KeyID, p.Nak, p.MAC = -7, true, run(3, 0) }), 1), api.OK},
		{"512 bytes bare", sealed(but(ask(), func(p *api.Packet) { p.Exts = exts(460) }), 1), api.OK},
	})
}

// P4.9: which packets open, and which error comes first.
func TestOpens(t *testing.T) {
	x := table(t, threeKeys(), 1, 3, 9)
	good, untrusted := mustSeal(t, x, full(), 1), mustSeal(t, x, full(), 2)
	unkeyed := but(good, func(p *api.Packet) { p.KeyID = 9 })
	form := func(p api.Packet) api.Packet { p.Mode = 0; return p }
	check(t, []row[api.Errno]{
		{"sealed with 1", x.Opens(good), api.OK},
		{"sealed with 3", x.Opens(mustSeal(t, x, ask(), 3)), api.OK},
		{"sealed with 2", x.Opens(untrusted), api.ErrKey},
		{"of a key that there is not", x.Opens(unkeyed), api.ErrKey},
		{"bare", x.Opens(full()), api.ErrKey},
		{"a Nak", x.Opens(auth.Nak(full())), api.ErrKey},
		{"not trusted, ErrForm", x.Opens(form(untrusted)), api.ErrKey},
		{"bare, ErrForm", x.Opens(form(full())), api.ErrKey},
		{"key -1", x.Opens(but(good, func(p *api.Packet) { p.KeyID = -1 })), api.ErrKey},
		{"key 65537", x.Opens(but(good, func(p *api.Packet) { p.KeyID = 65537 })), api.ErrKey},
		{"ErrForm", x.Opens(form(good)), api.ErrForm},
		{"with a Nak too", x.Opens(but(good, func(p *api.Packet) { p.Nak = true })), api.ErrForm},
		{"no digest", x.Opens(but(good, func(p *api.Packet) { p.MAC = nil })), api.ErrForm},
		{"19 bytes of the digest", x.Opens(but(good, func(p *api.Packet) { p.MAC = p.MAC[:19] })), api.ErrForm},
		{"16 bytes of the digest", x.Opens(but(good, func(p *api.Packet) { p.MAC = p.MAC[:16] })), api.ErrMAC},
		{"ErrMany", x.Opens(but(good, func(p *api.Packet) { p.Exts = exts(24, 24, 24, 24, 24) })), api.ErrMany},
		{"ErrLong", x.Opens(but(good, func(p *api.Packet) { p.Exts = exts(440) })), api.ErrLong},
		{"another key", x.Opens(but(good, func(p *api.Packet) { p.KeyID = 3 })), api.ErrMAC},
		{"another Xmt", x.Opens(but(good, func(p *api.Packet) { p.Xmt++ })), api.ErrMAC},
		{"another Leap", x.Opens(but(good, func(p *api.Packet) { p.Leap++ })), api.ErrMAC},
		{"a field fewer", x.Opens(but(good, func(p *api.Packet) { p.Exts = p.Exts[:1] })), api.ErrMAC},
		{"another field's Type", x.Opens(but(good, func(p *api.Packet) { p.Exts = exts(24, 28); p.Exts[1].Type = 9 })), api.ErrMAC},
		{"another digest", x.Opens(but(good, func(p *api.Packet) { p.MAC = run(20, 0) })), api.ErrMAC},
	})
}

func mustSeal(t *testing.T, x *auth.Table, p api.Packet, id int) api.Packet {
	t.Helper()
	s, err := x.Seal(p, id)
	if err != api.OK {
		t.Fatalf("Seal of %+v with %d is %v", p, id, err)
	}
	return s
}

// P4.11: what is sealed opens by a table with the same key, trusted, and behind a way through bytes; by another key it does not.
func TestSealedOpens(t *testing.T) {
	r := draws(5)
	for range 300 {
		p := full()
		p.Mode, p.Xmt, p.Org, p.Exts = 1+r.IntN(5), api.Stamp(r.Uint64()), api.Stamp(r.Uint64()), exts(24, 28, 40, 60)[:r.IntN(5)]
		k := threeKeys()[r.IntN(3)]
		s := mustSeal(t, table(t, []api.Key{shaKey(77, 2), k}), p, k.ID)
		b, err := wire.Encode(s)
		read, wrong := wire.Decode(b)
		other := table(t, []api.Key{k, shaKey(78, 3)}, 5, k.ID)
		if err != api.OK || wrong != api.OK || other.Opens(s) != api.OK || other.Opens(read) != api.OK {
			t.Errorf("%+v sealed with %d does not open", p, k.ID)
		}
		k.Bytes[r.IntN(len(k.Bytes))] ^= 1
		if got := table(t, []api.Key{k}, k.ID).Opens(s); got != api.ErrMAC {
			t.Errorf("by another key with the same ID Opens is %v", got)
		}
	}
}

// P4.9: Seal looks at the bare packet's length alone, Opens at the whole one's; P4.11 holds as long as that fits.
func TestSealedLength(t *testing.T) {
	x := table(t, threeKeys(), 1, 3)
	for _, c := range []struct {
		count, id int
		want      api.Errno
	}{{436, 1, api.OK}, {440, 1, api.ErrLong}, {440, 3, api.OK}, {444, 3, api.ErrLong}, {460, 1, api.ErrLong}} {
		s := mustSeal(t, x, but(ask(), func(p *api.Packet) { p.Exts = exts(c.count) }), c.id)
		if got := x.Opens(s); got != c.want {
			t.Errorf("Opens of a field of %d bytes sealed with %d is %v, not %v", c.count, c.id, got, c.want)
		}
	}
}

// R3: a table keeps nothing of what it is made from, and two have nothing in common.
func TestTableKeepsNothing(t *testing.T) {
	room := run(80, 0)
	keys := []api.Key{{ID: 1, Kind: api.KeySHA, Bytes: room[:20]}, {ID: 2, Kind: api.KeyCMAC, Bytes: room[20:36]}}
	trusted := []int{1, 2}
	first, second := table(t, keys, trusted...), table(t, keys, trusted...)
	want := digest(keys[0], []byte("x"))
	if !bytes.Equal(room, run(80, 0)) || keys[0].ID != 1 || keys[1].ID != 2 || trusted[0] != 1 || trusted[1] != 2 {
		t.Error("New changes what it is given")
	}
	for i := range room {
		room[i] = 0
	}
	keys[0], keys[1], trusted[0], trusted[1] = api.Key{}, api.Key{}, 0, 0
	for _, x := range []*auth.Table{first, second} {
		m, err := x.Sign(1, []byte("x"))
		if err != api.OK || !bytes.Equal(m, want) || !x.Trusts(1) || !x.Trusts(2) || x.Trusts(0) {
			t.Errorf("the table has changed: %x, %v", m, err)
		}
		for i := range m {
			m[i] = 0
		}
		if x.Verify(1, []byte("x"), want) != api.OK {
			t.Error("a digest that was handed out is the table's own")
		}
	}
}

// R3: packets stay as they are, with what lies behind their lists; a sealed one is new memory.
func TestSealMemory(t *testing.T) {
	x := table(t, threeKeys(), 1)
	for _, id := range []int{0, 1, 2} {
		data, mac := run(100, 1), run(60, 2)
		fields := []api.Ext{{Type: 1, Data: data[:24]}, {Type: 2, Data: data[24:52]}, {Type: 3, Data: data[52:]}}
		p := but(ask(), func(p *api.Packet) { p.Exts, p.KeyID, p.MAC = fields[:2], 5, mac[:20] })
		s := mustSeal(t, x, p, id)
		again := plain(mustSeal(t, x, p, id))
		s.Exts = append(s.Exts, api.Ext{Type: 99})
		for i := range s.Exts {
			s.Exts[i].Type = 50
			d := s.Exts[i].Data
			for j := range d[:cap(d)] {
				d[:cap(d)][j] = 0xee
			}
			if i == 0 && bytes.Contains(s.Exts[1].Data, []byte{0xee, 0xee}) {
				t.Error("two fields of one packet share memory")
			}
		}
		for i := range s.MAC[:cap(s.MAC)] {
			s.MAC[:cap(s.MAC)][i] = 0xee
		}
		x.Opens(p)
		if !bytes.Equal(data, run(100, 1)) || !bytes.Equal(mac, run(60, 2)) || fields[0].Type != 1 || fields[2].Type != 3 || p.KeyID != 5 {
			t.Errorf("Seal with %d changes or keeps what it is given", id)
		}
		if later := plain(mustSeal(t, x, p, id)); !reflect.DeepEqual(again, later) {
			t.Errorf("Seal with %d answers %+v, then %+v", id, again, later)
		}
	}
	q := but(ask(), func(p *api.Packet) { p.Exts = exts(24) })
	if n := auth.Nak(q); n.Exts != nil || n.MAC != nil {
		t.Errorf("Nak keeps lists: %+v", n)
	}
}

// R5: what was asked ahead changes nothing.
func TestTableAnswersTheSame(t *testing.T) {
	x := table(t, threeKeys(), 1)
	s := mustSeal(t, x, full(), 1)
	for range 3 {
		x.Verify(1, nil, nil)
		x.Verify(8, nil, nil)
		x.Sign(8, nil)
		x.Seal(api.Packet{}, 1)
		if x.Opens(s) != api.OK || !x.Trusts(1) || x.Trusts(2) || x.Trusts(8) {
			t.Fatal("the table has changed")
		}
	}
}
