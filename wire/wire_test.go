package wire_test

import (
	"bytes"
	"encoding/binary"
	"encoding/hex"
	"math/rand/v2"
	"reflect"
	"strings"
	"testing"

	"foliot/api"
	"foliot/stamp"
	"foliot/wire"
)

// mostShort is the greatest span that has a short form.
const mostShort = api.Span(1<<32-1) << 16

// The signatures that the chapter lists.
var (
	_ func(p api.Packet) api.Errno            = wire.Check
	_ func(p api.Packet) ([]byte, api.Errno)  = wire.Encode
	_ func(p api.Packet) ([]byte, api.Errno)  = wire.Message
	_ func(b []byte) (api.Packet, api.Errno)  = wire.Decode
	_ func(b []byte) int                      = wire.Mode
	_ func(c api.Control) api.Errno           = wire.CheckControl
	_ func(c api.Control) ([]byte, api.Errno) = wire.EncodeControl
	_ func(c api.Control) ([]byte, api.Errno) = wire.ControlMessage
	_ func(b []byte) (api.Control, api.Errno) = wire.DecodeControl
)

// A row is a call that was made, what it answered, and what the document asks.
type row[T comparable] struct {
	call      string
	got, want T
}

func check[T comparable](t *testing.T, rows []row[T]) {
	t.Helper()
	for _, r := range rows {
		if r.got != r.want {
			t.Errorf("%s is %v, not %v", r.call, r.got, r.want)
		}
	}
}

// sixteen reads bytes written to the base sixteen, with blanks wherever they help.
func sixteen(text string) []byte {
	b, err := hex.DecodeString(strings.ReplaceAll(text, " ", ""))
	if err != nil {
		panic(err)
	}
	return b
}

// run are count bytes, no two neighbours the same, none of them 0.
func run(count, first int) []byte {
	b := make([]byte, count)
	for i := range b {
		b[i] = byte(1 + (first+i)%255)
	}
	return b
}

// join is new memory.
func join(parts ...[]byte) []byte { return bytes.Join(parts, nil) }

// plain is p with nil for each list that has no elements, so that packets may be held against each other.
func plain(p api.Packet) api.Packet {
	var exts []api.Ext
	for _, e := range p.Exts {
		exts = append(exts, api.Ext{Type: e.Type, Data: append([]byte(nil), e.Data...)})
	}
	p.Exts, p.MAC = exts, append([]byte(nil), p.MAC...)
	return p
}

func plainControl(c api.Control) api.Control {
	c.Data, c.MAC = append([]byte(nil), c.Data...), append([]byte(nil), c.MAC...)
	return c
}

// onWire is p with its spans as they are behind a way through bytes.
func onWire(p api.Packet) api.Packet {
	p.Delay, p.Disp = stamp.FromShort(stamp.ToShort(p.Delay)), stamp.FromShort(stamp.ToShort(p.Disp))
	return p
}

// ruled is the first error of a list whose condition holds.
type ruled struct {
	wrong bool
	err   api.Errno
}

func firstOf(rules ...ruled) api.Errno {
	for _, r := range rules {
		if r.wrong {
			return r.err
		}
	}
	return api.OK
}

func out(n, least, most int) bool { return n < least || n > most }

// checked is what P3.1 says, line by line.
func checked(p api.Packet) api.Errno {
	total := 48 + len(p.Exts)*4
	badExt := false
	for _, e := range p.Exts {
		badExt = badExt || out(e.Type, 0, 65535) || len(e.Data) < 24 || len(e.Data)%4 != 0
		total += len(e.Data)
	}
	if p.KeyID != 0 {
		total += 4 + len(p.MAC)
	}
	if p.Nak {
		total += 4
	}
	return firstOf(
		ruled{out(p.Leap, 0, 3) || out(p.Version, 1, 4) || out(p.Mode, 1, 5) || out(p.Stratum, 0, 255), api.ErrForm},
		ruled{out(p.Poll, -128, 127) || out(p.Precision, -128, 127), api.ErrForm},
		ruled{p.Delay < 0 || p.Delay > mostShort || p.Disp < 0 || p.Disp > mostShort, api.ErrForm},
		ruled{len(p.Exts) > 4, api.ErrMany},
		ruled{badExt, api.ErrForm},
		ruled{out(p.KeyID, 0, 65535), api.ErrForm},
		ruled{p.KeyID == 0 && len(p.MAC) != 0, api.ErrForm},
		ruled{p.KeyID != 0 && (p.Nak || len(p.MAC) != 16 && len(p.MAC) != 20), api.ErrForm},
		ruled{total > 512, api.ErrLong},
	)
}

func checkedControl(c api.Control) api.Errno {
	total := 12 + len(c.Data)
	for total%4 != 0 {
		total++
	}
	if c.KeyID != 0 {
		total += 4 + len(c.MAC)
	}
	return firstOf(
		ruled{out(c.Version, 1, 4) || out(c.Op, 0, 31), api.ErrForm},
		ruled{out(c.Seq, 0, 65535) || out(c.Status, 0, 65535) || out(c.Assoc, 0, 65535) || out(c.Offset, 0, 65535), api.ErrForm},
		ruled{out(c.KeyID, 0, 65535), api.ErrForm},
		ruled{c.KeyID == 0 && len(c.MAC) != 0, api.ErrForm},
		ruled{c.KeyID != 0 && len(c.MAC) != 16 && len(c.MAC) != 20, api.ErrForm},
		ruled{total > 512, api.ErrLong},
	)
}

// header is how the library lays out the 48 bytes.
type header struct {
	First, Stratum     uint8
	Poll, Precision    int8
	Delay, Disp, RefID uint32
	Ref, Org, Rec, Xmt api.Stamp
}

func laid(parts ...any) []byte {
	b := &bytes.Buffer{}
	for _, p := range parts {
		if err := binary.Write(b, binary.BigEndian, p); err != nil {
			panic(err)
		}
	}
	return b.Bytes()
}

// written is a packet that may be as bytes, and how many of them are its message.
func written(p api.Packet) ([]byte, int) {
	b := laid(header{
		uint8(p.Leap*64 + p.Version*8 + p.Mode), uint8(p.Stratum), int8(p.Poll), int8(p.Precision),
		uint32((int64(p.Delay) + 65535) / 65536), uint32((int64(p.Disp) + 65535) / 65536), p.RefID, p.Ref, p.Org, p.Rec, p.Xmt,
	})
	for _, e := range p.Exts {
		b = append(b, laid(uint16(e.Type), uint16(4+len(e.Data)), e.Data)...)
	}
	message := len(b)
	if p.KeyID != 0 {
		b = append(b, laid(uint32(p.KeyID), p.MAC)...)
	}
	if p.Nak {
		b = append(b, 0, 0, 0, 0)
	}
	return b, message
}

func writtenControl(c api.Control) ([]byte, int) {
	second := c.Op
	for i, set := range []bool{c.More, c.Error, c.Response} {
		if set {
			second += 32 << i
		}
	}
	b := laid(uint8(c.Version*8+6), uint8(second), uint16(c.Seq), uint16(c.Status), uint16(c.Assoc), uint16(c.Offset), uint16(len(c.Data)), c.Data)
	for len(b)%4 != 0 {
		b = append(b, 0)
	}
	message := len(b)
	if c.KeyID != 0 {
		b = append(b, laid(uint32(c.KeyID), c.MAC)...)
	}
	return b, message
}

// behind is what stands behind the last field, as P3.3 says.
func behind(b []byte) (key int, mac []byte, nak bool, err api.Errno) {
	if len(b) == 0 {
		return 0, nil, false, api.OK
	}
	if len(b) != 4 && len(b) != 20 && len(b) != 24 {
		return 0, nil, false, api.ErrForm
	}
	n := binary.BigEndian.Uint32(b)
	if len(b) == 4 && n == 0 {
		return 0, nil, true, api.OK
	}
	if len(b) == 4 || n < 1 || n > 65535 {
		return 0, nil, false, api.ErrForm
	}
	return int(n), b[4:], false, api.OK
}

// told is what P3.3 says of bytes, by the places at which things stand.
func told(b []byte) (api.Packet, api.Errno) {
	if len(b) > 512 {
		return api.Packet{}, api.ErrLong
	}
	if len(b) < 48 {
		return api.Packet{}, api.ErrShort
	}
	var h header
	if _, err := binary.Decode(b, binary.BigEndian, &h); err != nil {
		panic(err)
	}
	p := api.Packet{
		Leap: int(h.First) / 64, Version: int(h.First) / 8 % 8, Mode: int(h.First) % 8,
		Stratum: int(h.Stratum), Poll: int(h.Poll), Precision: int(h.Precision),
		Delay: api.Span(h.Delay) * 65536, Disp: api.Span(h.Disp) * 65536, RefID: h.RefID,
		Ref: h.Ref, Org: h.Org, Rec: h.Rec, Xmt: h.Xmt,
	}
	if out(p.Version, 1, 4) || out(p.Mode, 1, 5) {
		return api.Packet{}, api.ErrForm
	}
	at := 48
	for len(b)-at > 24 {
		if len(p.Exts) == 4 {
			return api.Packet{}, api.ErrMany
		}
		long := int(b[at+2])*256 + int(b[at+3])
		if long < 28 || long%4 != 0 || at+long > len(b) {
			return api.Packet{}, api.ErrForm
		}
		p.Exts = append(p.Exts, api.Ext{Type: int(b[at])*256 + int(b[at+1]), Data: b[at+4 : at+long]})
		at += long
	}
	key, mac, nak, err := behind(b[at:])
	if err != api.OK {
		return api.Packet{}, err
	}
	p.KeyID, p.MAC, p.Nak = key, mac, nak
	return p, api.OK
}

// toldControl is what P3.5 says of bytes.
func toldControl(b []byte) (api.Control, api.Errno) {
	if len(b) > 512 {
		return api.Control{}, api.ErrLong
	}
	if len(b) < 12 {
		return api.Control{}, api.ErrShort
	}
	if b[0] != 0x0e && b[0] != 0x16 && b[0] != 0x1e && b[0] != 0x26 {
		return api.Control{}, api.ErrForm
	}
	var n [5]uint16
	if _, err := binary.Decode(b[2:], binary.BigEndian, &n); err != nil {
		panic(err)
	}
	end := 12 + int(n[4])
	fill := end
	for fill%4 != 0 {
		fill++
	}
	if fill > len(b) || !bytes.Equal(b[end:fill], make([]byte, fill-end)) {
		return api.Control{}, api.ErrForm
	}
	key, mac, nak, err := behind(b[fill:])
	if err != api.OK || nak {
		return api.Control{}, api.ErrForm
	}
	return api.Control{
		Version: int(b[0]) / 8, Response: b[1]/128 == 1, Error: b[1]/64%2 == 1, More: b[1]/32%2 == 1, Op: int(b[1]) % 32,
		Seq: int(n[0]), Status: int(n[1]), Assoc: int(n[2]), Offset: int(n[3]), Data: b[12:end], KeyID: key, MAC: mac,
	}, api.OK
}

// holdPacket holds Check, Encode, Message and the way back of p against the document.
func holdPacket(t *testing.T, p api.Packet) {
	t.Helper()
	want := checked(p)
	b, err := wire.Encode(p)
	m, merr := wire.Message(p)
	if got := wire.Check(p); got != want || err != want || merr != want {
		t.Fatalf("Check, Encode, Message of %+v are %v, %v, %v, not %v", p, got, err, merr, want)
	}
	if want != api.OK {
		if len(b) != 0 || len(m) != 0 {
			t.Fatalf("%+v has an error and bytes: %x, %x", p, b, m)
		}
		return
	}
	all, message := written(p)
	if !bytes.Equal(b, all) || !bytes.Equal(m, all[:message]) {
		t.Fatalf("Encode, Message of %+v are\n%x\n%x, not\n%x and %d bytes of it", p, b, m, all, message)
	}
	if q, err := wire.Decode(b); err != api.OK || !reflect.DeepEqual(plain(q), plain(onWire(p))) {
		t.Fatalf("Decode of Encode of\n%+v is\n%+v, %v", p, q, err)
	}
	if c, err := wire.DecodeControl(b); err != api.ErrForm || !reflect.DeepEqual(c, api.Control{}) {
		t.Fatalf("a packet of time is one of control: %x", b)
	}
}

func holdControl(t *testing.T, c api.Control) {
	t.Helper()
	want := checkedControl(c)
	b, err := wire.EncodeControl(c)
	m, merr := wire.ControlMessage(c)
	if got := wire.CheckControl(c); got != want || err != want || merr != want {
		t.Fatalf("CheckControl, EncodeControl, ControlMessage of %+v are %v, %v, %v, not %v", c, got, err, merr, want)
	}
	if want != api.OK {
		if len(b) != 0 || len(m) != 0 {
			t.Fatalf("%+v has an error and bytes: %x, %x", c, b, m)
		}
		return
	}
	all, message := writtenControl(c)
	if !bytes.Equal(b, all) || !bytes.Equal(m, all[:message]) {
		t.Fatalf("EncodeControl, ControlMessage of %+v are\n%x\n%x, not\n%x and %d bytes of it", c, b, m, all, message)
	}
	if d, err := wire.DecodeControl(b); err != api.OK || !reflect.DeepEqual(plainControl(d), plainControl(c)) {
		t.Fatalf("DecodeControl of EncodeControl of\n%+v is\n%+v, %v", c, d, err)
	}
	if len(b) >= 48 {
		if p, err := wire.Decode(b); err != api.ErrForm || !reflect.DeepEqual(p, api.Packet{}) {
			t.Fatalf("a packet of control is one of time: %x", b)
		}
	}
}

// holdBytes holds both ways of reading b against the document, and has what they take written again.
func holdBytes(t *testing.T, b []byte) {
	t.Helper()
	p, err := wire.Decode(b)
	if want, werr := told(b); err != werr || !reflect.DeepEqual(plain(p), plain(want)) {
		t.Fatalf("Decode of %x is\n%+v, %v, not\n%+v, %v", b, p, err, want, werr)
	}
	if err == api.OK {
		if again, err := wire.Encode(p); err != api.OK || !bytes.Equal(again, b) {
			t.Fatalf("Encode of Decode of\n%x is\n%x, %v", b, again, err)
		}
	}
	c, cerr := wire.DecodeControl(b)
	if want, werr := toldControl(b); cerr != werr || !reflect.DeepEqual(plainControl(c), plainControl(want)) {
		t.Fatalf("DecodeControl of %x is\n%+v, %v, not\n%+v, %v", b, c, cerr, want, werr)
	}
	if cerr == api.OK {
		if again, err := wire.EncodeControl(c); err != api.OK || !bytes.Equal(again, b) {
			t.Fatalf("EncodeControl of DecodeControl of\n%x is\n%x, %v", b, again, err)
		}
	}
	if err == api.OK && cerr == api.OK {
		t.Fatalf("a packet both of time and of control: %x", b)
	}
}

// one draws one of some values.
func one[T any](r *rand.Rand, l ...T) T { return l[r.IntN(len(l))] }

// some draws count bytes, often noughts.
func some(r *rand.Rand, count int) []byte {
	b := make([]byte, count)
	for i := range b {
		if r.IntN(3) > 0 {
			b[i] = byte(r.Uint32())
		}
	}
	return b
}

func draw(r *rand.Rand) api.Packet {
	p := api.Packet{
		Leap: r.IntN(4), Version: 1 + r.IntN(4), Mode: 1 + r.IntN(5), Stratum: r.IntN(256), Poll: r.IntN(256) - 128, Precision: r.IntN(256) - 128,
		Delay: api.Span(r.Int64N(int64(mostShort)+1)) >> r.IntN(48), Disp: api.Span(r.Int64N(int64(mostShort)+1)) >> r.IntN(48), RefID: r.Uint32(),
		Ref: api.Stamp(r.Uint64()), Org: api.Stamp(r.Uint64()), Rec: api.Stamp(r.Uint64()), Xmt: api.Stamp(r.Uint64()),
	}
	for range one(r, 0, 0, 1, 2, 3, 4) {
		p.Exts = append(p.Exts, api.Ext{Type: r.IntN(65536), Data: some(r, 24+4*r.IntN(one(r, 1, 4, 24)))})
	}
	switch r.IntN(4) {
	case 0:
		p.Nak = true
	case 1:
		p.KeyID, p.MAC = 1+r.IntN(65535), some(r, one(r, 16, 20))
	}
	return p
}

func drawControl(r *rand.Rand) api.Control {
	c := api.Control{
		Version: 1 + r.IntN(4), Response: r.IntN(2) == 0, Error: r.IntN(2) == 0, More: r.IntN(2) == 0, Op: r.IntN(32),
		Seq: r.IntN(65536), Status: r.IntN(65536), Assoc: r.IntN(65536), Offset: r.IntN(65536), Data: some(r, r.IntN(one(r, 1, 9, 60, 510))),
	}
	if r.IntN(2) == 0 {
		c.KeyID, c.MAC = 1+r.IntN(65535), some(r, one(r, 16, 20))
	}
	return c
}

// spoil changes b here and there: a byte, its end, its length.
func spoil(r *rand.Rand, b []byte) []byte {
	b = bytes.Clone(b)
	switch r.IntN(5) {
	case 0:
		b[r.IntN(len(b))] = byte(r.Uint32())
	case 1:
		b[min(r.IntN(13), len(b)-1)] = byte(r.Uint32())
	case 2:
		b[min(48+r.IntN(5), len(b)-1)] ^= byte(1 << r.IntN(8))
	case 3:
		b = b[:1+r.IntN(len(b))]
	case 4:
		b = append(b, some(r, one(r, 1, 2, 3, 4, 4, 8, 16, 20, 20, 24, 28))...)
	}
	return b
}

// P3.1 to P3.6 on packets that are drawn, the same ones each time, and on what is left of them when they are spoilt.
func TestDrawn(t *testing.T) {
	r := rand.New(rand.NewPCG(31, 36))
	for range 4000 {
		p, c := draw(r), drawControl(r)
		holdPacket(t, p)
		holdControl(t, c)
		b, _ := written(p)
		d, _ := writtenControl(c)
		holdBytes(t, b)
		holdBytes(t, d)
		for range 8 {
			holdBytes(t, spoil(r, b))
			holdBytes(t, spoil(r, spoil(r, b)))
			holdBytes(t, spoil(r, d))
			holdBytes(t, spoil(r, spoil(r, d)))
		}
	}
}

// P3.3, P3.5: bytes of every number up to MaxPacket and beyond, of noughts and of others, with every first byte.
func TestAllLengths(t *testing.T) {
	for count := range 540 {
		for _, fill := range [][]byte{make([]byte, count), run(count, 7), run(count, 30)} {
			for _, first := range []byte{0, 0x0c, 0x23, 0x26, 0xe3, 0xff} {
				if count > 0 {
					fill[0] = first
				}
				holdBytes(t, fill)
			}
		}
	}
	for first := range 256 {
		for _, count := range []int{1, 12, 47, 48, 52, 512, 513} {
			b := make([]byte, count)
			b[0] = byte(first)
			holdBytes(t, b)
		}
	}
}

// P3.2: the mode of whatever has a byte.
func TestMode(t *testing.T) {
	rows := []row[int]{
		{"Mode of nil", wire.Mode(nil), 0},
		{"Mode of no bytes", wire.Mode([]byte{}), 0},
		{"Mode of no bytes with one behind them", wire.Mode([]byte{0x23}[:0]), 0},
		{"Mode of 26", wire.Mode([]byte{0x26}), 6},
		{"Mode of 23 ff", wire.Mode([]byte{0x23, 0xff}), 3},
	}
	for n := range 256 {
		rows = append(rows, row[int]{hex.EncodeToString([]byte{byte(n)}), wire.Mode([]byte{byte(n), 1}), n % 8})
	}
	check(t, rows)
}
