package wire_test

import (
	"bytes"
	"math"
	"reflect"
	"testing"

	"foliot/api"
	"foliot/wire"
)

// ask is the first example's packet.
func ask() api.Packet { return api.Packet{Version: 4, Mode: 3, Xmt: 1} }

// full is a packet with a different value in each of its parts.
func full() api.Packet {
	return api.Packet{
		Leap: 2, Version: 3, Mode: 5, Stratum: 200, Poll: -2, Precision: -20,
		Delay: 0x01020304_0000, Disp: 0xfffefdfc_0000, RefID: 0x0a0b0c0d,
		Ref: 0x1112131415161718, Org: 0x2122232425262728, Rec: 0x3132333435363738, Xmt: 0xf1f2f3f4f5f6f7f8,
		Exts:  []api.Ext{{Type: 0x0102, Data: run(24, 0x40)}, {Type: 0xfffe, Data: run(28, 0x80)}},
		KeyID: 0xabcd, MAC: run(16, 0xa0),
	}
}

// exts are fields with Data of so many bytes each.
func exts(counts ...int) []api.Ext {
	var l []api.Ext
	for i, n := range counts {
		l = append(l, api.Ext{Type: i, Data: run(n, i)})
	}
	return l
}

// but is a packet that f has changed.
func but(p api.Packet, f func(p *api.Packet)) api.Packet {
	f(&p)
	return p
}

// The examples of the chapter that tell of packets of time.
func TestPacketExamples(t *testing.T) {
	first := join([]byte{0x23}, make([]byte, 46), []byte{1})
	b, err := wire.Encode(ask())
	if err != api.OK || !bytes.Equal(b, first) {
		t.Errorf("Encode of the first example is %x, %v", b, err)
	}
	b, err = wire.Encode(but(ask(), func(p *api.Packet) { p.KeyID, p.MAC = 5, run(20, 0) }))
	if err != api.OK || len(b) != 72 || !bytes.Equal(b, join(first, []byte{0, 0, 0, 5}, run(20, 0))) {
		t.Errorf("with a digest it is %x, %v", b, err)
	}
	_, short := wire.Decode(make([]byte, 47))
	_, noughts := wire.Decode(make([]byte, 48))
	_, eight := wire.Decode(join(first, make([]byte, 8)))
	_, others := wire.Decode(join(first, run(8, 0)))
	check(t, []row[api.Errno]{
		{"Decode of 47 bytes", short, api.ErrShort},
		{"Decode of 48 bytes 0", noughts, api.ErrForm},
		{"Decode of the first example and 8 bytes 0", eight, api.ErrForm},
		{"Decode of the first example and 8 bytes", others, api.ErrForm},
	})
	nak, err := wire.Decode(join(first, make([]byte, 4)))
	if want := but(ask(), func(p *api.Packet) { p.Nak = true }); err != api.OK || !reflect.DeepEqual(plain(nak), want) {
		t.Errorf("Decode of the first example and 4 bytes 0 is %+v, %v", nak, err)
	}
}

// P3.2, P3.3: each part of a packet stands at its place, its highest byte first.
func TestPlaces(t *testing.T) {
	message := join(
		sixteen("9d c8 fe ec  01020304 fffefdfc 0a0b0c0d"),
		sixteen("1112131415161718 2122232425262728 3132333435363738 f1f2f3f4f5f6f7f8"),
		sixteen("0102 001c"), run(24, 0x40),
		sixteen("fffe 0020"), run(28, 0x80),
	)
	whole := join(message, sixteen("0000abcd"), run(16, 0xa0))
	m, merr := wire.Message(full())
	b, err := wire.Encode(full())
	if merr != api.OK || err != api.OK || !bytes.Equal(m, message) || !bytes.Equal(b, whole) {
		t.Errorf("Message, Encode are\n%x, %v\n%x, %v", m, merr, b, err)
	}
	if p, err := wire.Decode(whole); err != api.OK || !reflect.DeepEqual(plain(p), full()) {
		t.Errorf("Decode is %+v, %v", p, err)
	}
	bare := but(full(), func(p *api.Packet) { p.KeyID, p.MAC = 0, nil })
	if p, err := wire.Decode(message); err != api.OK || !reflect.DeepEqual(plain(p), bare) {
		t.Errorf("Decode of the message is %+v, %v", p, err)
	}
	nak := but(bare, func(p *api.Packet) { p.Nak = true })
	b, err = wire.Encode(nak)
	if err != api.OK || !bytes.Equal(b, join(message, make([]byte, 4))) {
		t.Errorf("Encode with Nak is %x, %v", b, err)
	}
	if m, err := wire.Message(nak); err != api.OK || !bytes.Equal(m, message) {
		t.Errorf("Message with Nak is %x, %v", m, err)
	}
}

// P3.1: each number of the header at its limits and next to them, and at the ends of what it may hold.
func TestHeaderLimits(t *testing.T) {
	numbers := []struct {
		name        string
		least, most int
		field       func(p *api.Packet) *int
	}{
		{"Leap", 0, 3, func(p *api.Packet) *int { return &p.Leap }},
		{"Version", 1, 4, func(p *api.Packet) *int { return &p.Version }},
		{"Mode", 1, 5, func(p *api.Packet) *int { return &p.Mode }},
		{"Stratum", 0, 255, func(p *api.Packet) *int { return &p.Stratum }},
		{"Poll", -128, 127, func(p *api.Packet) *int { return &p.Poll }},
		{"Precision", -128, 127, func(p *api.Packet) *int { return &p.Precision }},
	}
	for _, f := range numbers {
		for n, want := range map[int]api.Errno{
			f.least: api.OK, f.least - 1: api.ErrForm, f.most: api.OK, f.most + 1: api.ErrForm,
			math.MinInt: api.ErrForm, math.MaxInt: api.ErrForm, f.least - 256: api.ErrForm, f.most + 1<<32: api.ErrForm,
		} {
			p := full()
			*f.field(&p) = n
			if got := wire.Check(p); got != want {
				t.Errorf("Check with %s %d is %v, not %v", f.name, n, got, want)
			}
			holdPacket(t, p)
		}
	}
}

// P3.1, P3.6: spans at 0, at the greatest short form and next to them; between short forms they go up.
func TestSpans(t *testing.T) {
	for d, want := range map[api.Span]api.Errno{
		-1: api.ErrForm, 0: api.OK, 1: api.OK, 65535: api.OK, 65536: api.OK, 65537: api.OK,
		mostShort - 1: api.OK, mostShort: api.OK, mostShort + 1: api.ErrForm, 1 << 48: api.ErrForm,
		api.MaxSpan: api.ErrForm, -api.MaxSpan: api.ErrForm, math.MinInt64: api.ErrForm, math.MaxInt64: api.ErrForm,
	} {
		delay, disp := full(), full()
		delay.Delay, disp.Disp = d, d
		check(t, []row[api.Errno]{{"Check of a Delay", wire.Check(delay), want}, {"Check of a Disp", wire.Check(disp), want}})
		holdPacket(t, delay)
		holdPacket(t, disp)
	}
	up, _ := wire.Encode(api.Packet{Version: 1, Mode: 1, Delay: 1, Disp: mostShort - 65535})
	if !bytes.Equal(up[4:12], sixteen("00000001 ffffffff")) {
		t.Errorf("Delay and Disp are %x", up[4:12])
	}
}

// P3.1: no, MaxExt and more fields; their types and Data at their limits.
func TestExtLimits(t *testing.T) {
	few := func(counts ...int) api.Errno {
		return wire.Check(but(ask(), func(p *api.Packet) { p.Exts = exts(counts...) }))
	}
	kind := func(n int) api.Errno {
		return wire.Check(but(ask(), func(p *api.Packet) { p.Exts = []api.Ext{{Type: n, Data: run(24, 0)}} }))
	}
	check(t, []row[api.Errno]{
		{"no Exts", few(), api.OK},
		{"one", few(24), api.OK},
		{"MaxExt", few(24, 24, 24, 24), api.OK},
		{"one more", few(24, 24, 24, 24, 24), api.ErrMany},
		{"Data of no bytes", few(0), api.ErrForm},
		{"of 20", few(20), api.ErrForm},
		{"of 23", few(23), api.ErrForm},
		{"of 25", few(25), api.ErrForm},
		{"of 26", few(26), api.ErrForm},
		{"of 27", few(27), api.ErrForm},
		{"of 28", few(28), api.OK},
		{"the last of 20", few(24, 24, 24, 20), api.ErrForm},
		{"the first of 30", few(30, 24, 24), api.ErrForm},
		{"Type 0", kind(0), api.OK},
		{"Type 65535", kind(65535), api.OK},
		{"Type -1", kind(-1), api.ErrForm},
		{"Type 65536", kind(65536), api.ErrForm},
		{"Type MaxInt", kind(math.MaxInt), api.ErrForm},
	})
	for count := range 5 {
		p := full()
		p.Exts = exts(24, 28, 32, 36)[:count]
		holdPacket(t, p)
	}
}

// P3.1: keys, digests and Nak.
func TestDigestLimits(t *testing.T) {
	with := func(key, count int, nak bool) api.Errno {
		p := but(ask(), func(p *api.Packet) { p.KeyID, p.MAC, p.Nak = key, run(count, 0), nak })
		holdPacket(t, p)
		return wire.Check(p)
	}
	check(t, []row[api.Errno]{
		{"no key", with(0, 0, false), api.OK},
		{"Nak", with(0, 0, true), api.OK},
		{"no key, 16 bytes", with(0, 16, false), api.ErrForm},
		{"no key, 20 bytes", with(0, 20, false), api.ErrForm},
		{"Nak, 16 bytes", with(0, 16, true), api.ErrForm},
		{"key 1, 16 bytes", with(1, 16, false), api.OK},
		{"key 1, 20 bytes", with(1, 20, false), api.OK},
		{"key 65535, 16 bytes", with(65535, 16, false), api.OK},
		{"key 65535, 20 bytes", with(65535, 20, false), api.OK},
		{"key -1", with(-1, 16, false), api.ErrForm},
		{"key 65536", with(65536, 20, false), api.ErrForm},
		{"key MinInt", with(math.MinInt, 20, false), api.ErrForm},
		{"key 2^32", with(1<<32, 20, false), api.ErrForm},
		{"key 2^32 + 1", with(1<<32+1, 20, false), api.ErrForm},
		{"key 1 and Nak, 16 bytes", with(1, 16, true), api.ErrForm},
		{"key 1 and Nak, no bytes", with(1, 0, true), api.ErrForm},
	})
	for count := range 40 {
		want := api.ErrForm
		if count == 16 || count == 20 {
			want = api.OK
		}
		if got := with(7, count, false); got != want {
			t.Errorf("Check with %d bytes MAC is %v, not %v", count, got, want)
		}
	}
}

// P3.1: MaxPacket bytes, and the next number that may be; Data far beyond what a length can tell.
func TestLongPackets(t *testing.T) {
	long := func(count, key, mac int, nak bool) api.Errno {
		p := but(ask(), func(p *api.Packet) { p.Exts, p.KeyID, p.MAC, p.Nak = exts(count), key, run(mac, 0), nak })
		holdPacket(t, p)
		return wire.Check(p)
	}
	check(t, []row[api.Errno]{
		{"512 bytes", long(460, 0, 0, false), api.OK},
		{"516 bytes", long(464, 0, 0, false), api.ErrLong},
		{"512 bytes with Nak", long(456, 0, 0, true), api.OK},
		{"516 bytes with Nak", long(460, 0, 0, true), api.ErrLong},
		{"512 bytes with 16 of a digest", long(440, 1, 16, false), api.OK},
		{"516 bytes with 16 of a digest", long(444, 1, 16, false), api.ErrLong},
		{"512 bytes with 20 of a digest", long(436, 1, 20, false), api.OK},
		{"516 bytes with 20 of a digest", long(440, 1, 20, false), api.ErrLong},
		{"a field of 65536 bytes", long(65532, 0, 0, false), api.ErrLong},
		{"a field of 65564 bytes", long(65560, 0, 0, false), api.ErrLong},
	})
	four := func(last int) api.Errno {
		return wire.Check(but(ask(), func(p *api.Packet) { p.Exts = exts(100, 100, 124, last) }))
	}
	check(t, []row[api.Errno]{{"four fields, 512 bytes", four(124), api.OK}, {"four fields, 516 bytes", four(128), api.ErrLong}})
}

// P3.1: which error comes first where several would.
func TestCheckOrder(t *testing.T) {
	all := func(p *api.Packet) {
		p.Exts = append(exts(24, 24, 24, 25), api.Ext{Type: -1, Data: run(600, 0)})
		p.KeyID, p.MAC = -1, run(3, 0)
	}
	check(t, []row[api.Errno]{
		{"Leap and all", wire.Check(but(ask(), func(p *api.Packet) { all(p); p.Leap = 4 })), api.ErrForm},
		{"Disp and all", wire.Check(but(ask(), func(p *api.Packet) { all(p); p.Disp = -1 })), api.ErrForm},
		{"all but the header", wire.Check(but(ask(), all)), api.ErrMany},
		{"without ErrMany", wire.Check(but(ask(), func(p *api.Packet) { all(p); p.Exts = p.Exts[1:] })), api.ErrForm},
		{"a field and ErrLong", wire.Check(but(ask(), func(p *api.Packet) { p.Exts = exts(600, 25) })), api.ErrForm},
		{"a key and ErrLong", wire.Check(but(ask(), func(p *api.Packet) { p.Exts = exts(600); p.KeyID = 5 })), api.ErrForm},
		{"a digest of 600 bytes", wire.Check(but(ask(), func(p *api.Packet) { p.KeyID, p.MAC = 5, run(600, 0) })), api.ErrForm},
		{"ErrMany and ErrLong", wire.Check(but(ask(), func(p *api.Packet) { p.Exts = exts(600, 24, 24, 24, 24) })), api.ErrMany},
	})
	holdPacket(t, but(ask(), all))
}

// P3.3: what may stand behind Xmt, and what may not.
func TestDecodeBehindHeader(t *testing.T) {
	first := join([]byte{0x23}, make([]byte, 46), []byte{1})
	of := func(behind ...[]byte) api.Errno {
		b := join(append([][]byte{first}, behind...)...)
		holdBytes(t, b)
		_, err := wire.Decode(b)
		return err
	}
	field := func(length, data int) []byte {
		return join([]byte{0, 9, byte(length >> 8), byte(length)}, run(data, 0))
	}
	good := field(28, 24)
	check(t, []row[api.Errno]{
		{"4 bytes 0", of(make([]byte, 4)), api.OK},
		{"4 bytes, the first 1", of(sixteen("01000000")), api.ErrForm},
		{"4 bytes, the last 1", of(sixteen("00000001")), api.ErrForm},
		{"20 bytes, key 0", of(sixteen("00000000"), run(16, 0)), api.ErrForm},
		{"20 bytes, key 1", of(sixteen("00000001"), run(16, 0)), api.OK},
		{"20 bytes, key 65535", of(sixteen("0000ffff"), run(16, 0)), api.OK},
		{"20 bytes, key 65536", of(sixteen("00010000"), run(16, 0)), api.ErrForm},
		{"24 bytes, key 0", of(sixteen("00000000"), run(20, 0)), api.ErrForm},
		{"24 bytes, key 1", of(sixteen("00000001"), run(20, 0)), api.OK},
		{"24 bytes, key 65535", of(sixteen("0000ffff"), run(20, 0)), api.OK},
		{"24 bytes, key 2^31 + 1", of(sixteen("80000001"), run(20, 0)), api.ErrForm},
		{"a field", of(good), api.OK},
		{"a field whose length is 0", of(field(0, 24)), api.ErrForm},
		{"3", of(field(3, 24)), api.ErrForm},
		{"24", of(field(24, 24)), api.ErrForm},
		{"27", of(field(27, 24)), api.ErrForm},
		{"29 of 32 bytes", of(field(29, 28)), api.ErrForm},
		{"30 of 32 bytes", of(field(30, 28)), api.ErrForm},
		{"32 of 28 bytes", of(field(32, 24)), api.ErrForm},
		{"65532", of(field(65532, 24)), api.ErrForm},
		{"25 bytes left", of(field(28, 21)), api.ErrForm},
		{"27 bytes left", of(field(28, 23)), api.ErrForm},
		{"a field and 4 bytes 0", of(good, make([]byte, 4)), api.OK},
		{"a field and 4 others", of(good, run(4, 0)), api.ErrForm},
		{"a field and 2 bytes", of(good, make([]byte, 2)), api.ErrForm},
		{"a field and 8 bytes", of(good, make([]byte, 8)), api.ErrForm},
		{"a field and a digest", of(good, sixteen("00000005"), run(20, 0)), api.OK},
		{"four fields", of(good, good, good, good), api.OK},
		{"four fields and a digest", of(good, good, good, good, sixteen("00000005"), run(20, 0)), api.OK},
		{"five fields", of(good, good, good, good, good), api.ErrMany},
		{"four fields and one that is none", of(good, good, good, good, field(3, 24)), api.ErrMany},
		{"four fields and 25 bytes", of(good, good, good, good, make([]byte, 25)), api.ErrMany},
		{"three fields and one that is none", of(good, good, good, field(3, 24)), api.ErrForm},
		{"a field that is none, and four", of(field(3, 24), good, good, good, good), api.ErrForm},
		{"512 bytes", of(field(464, 460)), api.OK},
		{"513 bytes", of(field(464, 461)), api.ErrLong},
		{"516 bytes", of(field(468, 464)), api.ErrLong},
	})
}

// P3.3: the first bytes that may be, and which error comes first.
func TestDecodeOrder(t *testing.T) {
	of := func(first byte, count int) api.Errno {
		b := make([]byte, count)
		b[0] = first
		holdBytes(t, b)
		_, err := wire.Decode(b)
		return err
	}
	check(t, []row[api.Errno]{
		{"513 bytes 0", of(0, 513), api.ErrLong},
		{"47 bytes 0", of(0, 47), api.ErrShort},
		{"1 byte", of(0x23, 1), api.ErrShort},
		{"Version 0", of(0x03, 48), api.ErrForm},
		{"Version 1", of(0x0b, 48), api.OK},
		{"Version 5", of(0x2b, 48), api.ErrForm},
		{"Mode 0", of(0x20, 48), api.ErrForm},
		{"Mode 5", of(0x25, 48), api.OK},
		{"Mode 6", of(0x26, 48), api.ErrForm},
		{"Mode 7", of(0x27, 48), api.ErrForm},
		{"Leap 3", of(0xe3, 48), api.OK},
	})
	five := join(bytes.Repeat(join(sixteen("0001001c"), make([]byte, 24)), 5))
	for first, want := range map[byte]api.Errno{0x03: api.ErrForm, 0x26: api.ErrForm, 0x23: api.ErrMany} {
		if _, err := wire.Decode(join([]byte{first}, make([]byte, 47), five)); err != want {
			t.Errorf("Decode of %x and five fields is %v, not %v", first, err, want)
		}
	}
	if p, err := wire.Decode(nil); err != api.ErrShort || !reflect.DeepEqual(p, api.Packet{}) {
		t.Errorf("Decode of nil is %+v, %v", p, err)
	}
}

// R3: what is handed in stays as it is, with what lies behind it; answers share nothing.
func TestPacketMemory(t *testing.T) {
	p := full()
	for i, e := range p.Exts {
		p.Exts[i].Data = join(e.Data, run(40, 1))[:len(e.Data)]
	}
	p.Exts = append(p.Exts, api.Ext{Type: 77})[:2]
	p.MAC = join(p.MAC, run(40, 1))[:16]
	whole := join(p.MAC[:56], p.Exts[0].Data[:64], p.Exts[1].Data[:68])
	b, _ := wire.Encode(p)
	m, _ := wire.Message(p)
	again, _ := wire.Encode(p)
	wipe(b)
	wipe(m)
	if !bytes.Equal(whole, join(p.MAC[:56], p.Exts[0].Data[:64], p.Exts[1].Data[:68])) || p.Exts[:3][2].Type != 77 {
		t.Error("a packet's lists were changed")
	}
	if want, _ := written(full()); !bytes.Equal(again, want) {
		t.Error("two answers share bytes")
	}
	room := join(again, run(300, 5))
	q, _ := wire.Decode(room[:len(again)])
	r, _ := wire.Decode(room[:len(again)])
	if !bytes.Equal(room, join(again, run(300, 5))) {
		t.Error("Decode changed bytes")
	}
	wipe(room)
	wipe(q.MAC)
	if !bytes.Equal(q.Exts[0].Data, run(24, 0x40)) || !bytes.Equal(q.Exts[1].Data, run(28, 0x80)) {
		t.Error("a field shares bytes with MAC or what was handed in")
	}
	wipe(q.Exts[0].Data)
	if !bytes.Equal(q.Exts[1].Data, run(28, 0x80)) {
		t.Error("two fields share bytes")
	}
	clear(q.Exts[:cap(q.Exts)])
	if !reflect.DeepEqual(plain(r), full()) {
		t.Errorf("two answers share memory: %+v", r)
	}
}

// wipe sets a list's bytes, and its spare room.
func wipe(b []byte) {
	for i := range b[:cap(b)] {
		b[:cap(b)][i] = 0xee
	}
}
