package wire_test

import (
	"bytes"
	"math"
	"reflect"
	"testing"

	"foliot/api"
	"foliot/wire"
)

// command is the chapter's example of a packet of control.
func command() api.Control { return api.Control{Version: 4, Op: 2, Seq: 1, Data: []byte("abc")} }

func butControl(c api.Control, f func(c *api.Control)) api.Control {
	f(&c)
	return c
}

func decoded(t *testing.T, parts ...[]byte) api.Errno {
	t.Helper()
	b := join(parts...)
	holdBytes(t, b)
	_, err := wire.DecodeControl(b)
	return err
}

// The examples of the chapter that tell of packets of control.
func TestControlExamples(t *testing.T) {
	want := sixteen("26 02 0001 0000 0000 0000 0003 616263 00")
	b, err := wire.EncodeControl(command())
	if err != api.OK || !bytes.Equal(b, want) {
		t.Errorf("EncodeControl of the example is %x, %v", b, err)
	}
	want[15] = 1
	if c, err := wire.DecodeControl(want); err != api.ErrForm || !reflect.DeepEqual(c, api.Control{}) {
		t.Errorf("DecodeControl with a last byte 1 is %+v, %v", c, err)
	}
}

// P3.4, P3.5: each part stands at its place, its highest byte first.
func TestControlPlaces(t *testing.T) {
	c := api.Control{Version: 2, Response: true, More: true, Op: 0x15, Seq: 0x0102, Status: 0xf3f4, Assoc: 0x0506, Offset: 0x0708, Data: run(6, 0x30), KeyID: 0x1234, MAC: run(20, 0x50)}
	message := join(sixteen("16 b5 0102 f3f4 0506 0708 0006"), run(6, 0x30), []byte{0, 0})
	whole := join(message, sixteen("00001234"), run(20, 0x50))
	m, merr := wire.ControlMessage(c)
	b, err := wire.EncodeControl(c)
	if merr != api.OK || err != api.OK || !bytes.Equal(m, message) || !bytes.Equal(b, whole) {
		t.Errorf("ControlMessage, EncodeControl are\n%x, %v\n%x, %v", m, merr, b, err)
	}
	if d, err := wire.DecodeControl(whole); err != api.OK || !reflect.DeepEqual(d, c) {
		t.Errorf("DecodeControl is %+v, %v", d, err)
	}
	for _, f := range []struct {
		c    api.Control
		want byte
	}{{api.Control{Response: true}, 128}, {api.Control{Error: true}, 64}, {api.Control{More: true}, 32}, {api.Control{Op: 31}, 31}, {api.Control{Response: true, Error: true, More: true, Op: 31}, 255}} {
		f.c.Version = 1
		if b, err := wire.EncodeControl(f.c); err != api.OK || len(b) != 12 || b[0] != 0x0e || b[1] != f.want {
			t.Errorf("EncodeControl of %+v is %x, %v", f.c, b, err)
		}
		holdControl(t, f.c)
	}
}

// P3.4: each number at its limits and next to them.
func TestControlLimits(t *testing.T) {
	numbers := []struct {
		name        string
		least, most int
		field       func(c *api.Control) *int
	}{
		{"Version", 1, 4, func(c *api.Control) *int { return &c.Version }},
		{"Op", 0, 31, func(c *api.Control) *int { return &c.Op }},
		{"Seq", 0, 65535, func(c *api.Control) *int { return &c.Seq }},
		{"Status", 0, 65535, func(c *api.Control) *int { return &c.Status }},
		{"Assoc", 0, 65535, func(c *api.Control) *int { return &c.Assoc }},
		{"Offset", 0, 65535, func(c *api.Control) *int { return &c.Offset }},
	}
	for _, f := range numbers {
		for n, want := range map[int]api.Errno{
			f.least: api.OK, f.least - 1: api.ErrForm, f.most: api.OK, f.most + 1: api.ErrForm,
			math.MinInt: api.ErrForm, math.MaxInt: api.ErrForm, f.most + 1<<32: api.ErrForm,
		} {
			c := command()
			*f.field(&c) = n
			if got := wire.CheckControl(c); got != want {
				t.Errorf("CheckControl with %s %d is %v, not %v", f.name, n, got, want)
			}
			holdControl(t, c)
		}
	}
}

// P3.4: keys and digests.
func TestControlDigests(t *testing.T) {
	with := func(key, count int) api.Errno {
		c := butControl(command(), func(c *api.Control) { c.KeyID, c.MAC = key, run(count, 0) })
		holdControl(t, c)
		return wire.CheckControl(c)
	}
	check(t, []row[api.Errno]{
		{"no key", with(0, 0), api.OK},
		{"no key, 16 bytes", with(0, 16), api.ErrForm},
		{"no key, 20 bytes", with(0, 20), api.ErrForm},
		{"key 1, 16 bytes", with(1, 16), api.OK},
		{"key 65535, 20 bytes", with(65535, 20), api.OK},
		{"key -1", with(-1, 16), api.ErrForm},
		{"key 65536", with(65536, 16), api.ErrForm},
		{"key 2^32", with(1<<32, 20), api.ErrForm},
		{"key 1, no bytes", with(1, 0), api.ErrForm},
		{"key 1, 15 bytes", with(1, 15), api.ErrForm},
		{"key 1, 17 bytes", with(1, 17), api.ErrForm},
		{"key 1, 18 bytes", with(1, 18), api.ErrForm},
		{"key 1, 19 bytes", with(1, 19), api.ErrForm},
		{"key 1, 21 bytes", with(1, 21), api.ErrForm},
		{"key 1, 24 bytes", with(1, 24), api.ErrForm},
	})
}

// P3.4: MaxPacket bytes and more, with those that fill; ErrForm comes ahead of ErrLong.
func TestLongControls(t *testing.T) {
	long := func(count, key, mac int) api.Errno {
		c := api.Control{Version: 1, Data: run(count, 0), KeyID: key, MAC: run(mac, 0)}
		holdControl(t, c)
		return wire.CheckControl(c)
	}
	check(t, []row[api.Errno]{
		{"no Data", long(0, 0, 0), api.OK},
		{"512 bytes", long(500, 0, 0), api.OK},
		{"512 bytes, three that fill", long(497, 0, 0), api.OK},
		{"513 bytes, and three that fill", long(501, 0, 0), api.ErrLong},
		{"516 bytes", long(504, 0, 0), api.ErrLong},
		{"512 bytes with 16 of a digest", long(480, 1, 16), api.OK},
		{"516 bytes with 16 of a digest", long(481, 1, 16), api.ErrLong},
		{"512 bytes with 20 of a digest", long(476, 1, 20), api.OK},
		{"516 bytes with 20 of a digest", long(477, 1, 20), api.ErrLong},
		{"Data of 65536 bytes", long(65536, 0, 0), api.ErrLong},
		{"a key and ErrLong", long(504, 65536, 16), api.ErrForm},
		{"a digest and ErrLong", long(504, 1, 600), api.ErrForm},
		{"no key and ErrLong", long(504, 0, 16), api.ErrForm},
	})
	for _, f := range []func(c *api.Control){
		func(c *api.Control) { c.Version = 5 },
		func(c *api.Control) { c.Op = 32 },
		func(c *api.Control) { c.Offset = 65536 },
	} {
		c := butControl(api.Control{Version: 1, Data: run(504, 0)}, f)
		check(t, []row[api.Errno]{{"ErrForm and ErrLong", wire.CheckControl(c), api.ErrForm}})
	}
	for count := range 520 {
		holdControl(t, api.Control{Version: 4, Data: run(count, 1)})
		holdControl(t, api.Control{Version: 4, Data: run(count, 1), KeyID: 9, MAC: run(16, 0)})
	}
}

// P3.5: bytes that end too early or too late, first bytes that may not be, bytes that fill and are not 0.
func TestDecodeControlEdges(t *testing.T) {
	head := func(first byte, count int) []byte {
		return []byte{first, 2, 0, 1, 0, 0, 0, 0, 0, 0, byte(count >> 8), byte(count)}
	}
	check(t, []row[api.Errno]{
		{"no bytes", decoded(t), api.ErrShort},
		{"11 bytes", decoded(t, head(0x26, 0)[:11]), api.ErrShort},
		{"11 bytes of another mode", decoded(t, head(0x23, 0)[:11]), api.ErrShort},
		{"12 bytes", decoded(t, head(0x26, 0)), api.OK},
		{"the highest bit", decoded(t, head(0xa6, 0)), api.ErrForm},
		{"the bit below it", decoded(t, head(0x66, 0)), api.ErrForm},
		{"Version 0", decoded(t, head(0x06, 0)), api.ErrForm},
		{"Version 1", decoded(t, head(0x0e, 0)), api.OK},
		{"Version 5", decoded(t, head(0x2e, 0)), api.ErrForm},
		{"Version 7", decoded(t, head(0x3e, 0)), api.ErrForm},
		{"Mode 5", decoded(t, head(0x25, 0)), api.ErrForm},
		{"Mode 7", decoded(t, head(0x27, 0)), api.ErrForm},
		{"1 byte of 1, and none that fills", decoded(t, head(0x26, 1), []byte("a")), api.ErrForm},
		{"1 byte, and two that fill", decoded(t, head(0x26, 1), []byte("a\x00\x00")), api.ErrForm},
		{"1 byte, and three that fill", decoded(t, head(0x26, 1), []byte("a\x00\x00\x00")), api.OK},
		{"the first that fills is 1", decoded(t, head(0x26, 1), []byte("a\x01\x00\x00")), api.ErrForm},
		{"the second that fills is 1", decoded(t, head(0x26, 1), []byte("a\x00\x01\x00")), api.ErrForm},
		{"the third that fills is 128", decoded(t, head(0x26, 1), []byte("a\x00\x00\x80")), api.ErrForm},
		{"2 bytes", decoded(t, head(0x26, 2), []byte("ab\x00\x00")), api.OK},
		{"4 bytes, none fills", decoded(t, head(0x26, 4), []byte("abcd")), api.OK},
		{"4 bytes of 3", decoded(t, head(0x26, 4), []byte("abc")), api.ErrForm},
		{"5 bytes of 4", decoded(t, head(0x26, 5), []byte("abcd")), api.ErrForm},
		{"65535 bytes", decoded(t, head(0x26, 65535), []byte("abcd")), api.ErrForm},
		{"4 bytes 0 behind Data", decoded(t, head(0x26, 4), []byte("abcd"), make([]byte, 4)), api.ErrForm},
		{"4 bytes 0 behind no Data", decoded(t, head(0x26, 0), make([]byte, 4)), api.ErrForm},
		{"4 others behind Data", decoded(t, head(0x26, 4), []byte("abcd"), run(4, 0)), api.ErrForm},
		{"8 bytes behind Data", decoded(t, head(0x26, 4), []byte("abcd"), make([]byte, 8)), api.ErrForm},
		{"key 0", decoded(t, head(0x26, 0), make([]byte, 20)), api.ErrForm},
		{"key 1, 16 bytes", decoded(t, head(0x26, 0), sixteen("00000001"), make([]byte, 16)), api.OK},
		{"key 65535, 20 bytes", decoded(t, head(0x26, 4), []byte("abcd"), sixteen("0000ffff"), make([]byte, 20)), api.OK},
		{"key 65536", decoded(t, head(0x26, 0), sixteen("00010000"), make([]byte, 20)), api.ErrForm},
		{"key 1, 18 bytes", decoded(t, head(0x26, 0), sixteen("00000001"), make([]byte, 18)), api.ErrForm},
		{"key 1, 24 bytes", decoded(t, head(0x26, 0), sixteen("00000001"), make([]byte, 24)), api.ErrForm},
		{"512 bytes", decoded(t, head(0x26, 500), run(500, 0)), api.OK},
		{"513 bytes", decoded(t, head(0x26, 501), run(501, 0)), api.ErrLong},
		{"513 bytes of another mode", decoded(t, head(0x23, 501), run(501, 0)), api.ErrLong},
	})
}

// R3: what is handed in stays as it is, with what lies behind it; answers share nothing.
func TestControlMemory(t *testing.T) {
	room, mac := run(90, 1), run(60, 2)
	c := butControl(command(), func(c *api.Control) { c.Data, c.KeyID, c.MAC = room[:3], 5, mac[:20] })
	b, _ := wire.EncodeControl(c)
	m, _ := wire.ControlMessage(c)
	again, _ := wire.EncodeControl(c)
	wipe(b)
	wipe(m)
	if !bytes.Equal(room, run(90, 1)) || !bytes.Equal(mac, run(60, 2)) {
		t.Error("a packet's lists were changed")
	}
	if want, _ := writtenControl(c); !bytes.Equal(again, want) {
		t.Error("two answers share bytes")
	}
	given := join(again, run(300, 5))
	d, _ := wire.DecodeControl(given[:len(again)])
	if !bytes.Equal(given, join(again, run(300, 5))) {
		t.Error("DecodeControl changed bytes")
	}
	wipe(given)
	wipe(d.Data)
	if !bytes.Equal(d.MAC, mac[:20]) {
		t.Error("MAC shares bytes with Data or what was handed in")
	}
	d, _ = wire.DecodeControl(again)
	wipe(d.MAC)
	if !bytes.Equal(d.Data, room[:3]) {
		t.Error("Data shares bytes with MAC")
	}
}
