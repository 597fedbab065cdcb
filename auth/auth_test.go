package auth_test

import (
	"bytes"
	"crypto/sha256"
	"encoding/hex"
	"math"
	"math/rand/v2"
	"reflect"
	"strings"
	"testing"

	"foliot/api"
	"foliot/auth"
)

// The signatures that the chapter lists.
var (
	_ func(b []byte) [32]byte                                           = auth.SHA
	_ func(key, block [16]byte) [16]byte                                = auth.AES
	_ func(key [16]byte, b []byte) [16]byte                             = auth.CMAC
	_ func(k api.Key) api.Errno                                         = auth.CheckKey
	_ func(k api.Key, b []byte) ([]byte, api.Errno)                     = auth.Digest
	_ func(a, b []byte) bool                                            = auth.Same
	_ func(s string) ([]api.Key, api.Errno)                             = auth.Parse
	_ func(l []api.Key) (string, api.Errno)                             = auth.Print
	_ func(l []api.Key, trusted []int) (*auth.Table, api.Errno)         = auth.New
	_ func(t *auth.Table, id int, b []byte) ([]byte, api.Errno)         = (*auth.Table).Sign
	_ func(t *auth.Table, id int, b, mac []byte) api.Errno              = (*auth.Table).Verify
	_ func(t *auth.Table, id int) bool                                  = (*auth.Table).Trusts
	_ func(t *auth.Table, p api.Packet, id int) (api.Packet, api.Errno) = (*auth.Table).Seal
	_ func(t *auth.Table, p api.Packet) api.Errno                       = (*auth.Table).Opens
	_ func(q api.Packet) api.Packet                                     = auth.Nak
	_ func(p api.Packet) bool                                           = auth.IsNak
)

// A row is a call that was made, what it answered, and what the document asks.
type row[T comparable] struct {
	call      string
	got, want T
}

func check[T comparable](t *testing.T, rows []row[T]) {
	t.Helper()
	for _, r := range rows {
		if r.got != r.want {
			t.Errorf("%s is %v, not %v", r.call, r.got, r.want)
		}
	}
}

// sixteen reads bytes written to the base sixteen, with blanks wherever they help.
func sixteen(text string) []byte {
	b, err := hex.DecodeString(strings.ReplaceAll(text, " ", ""))
	if err != nil {
		panic(err)
	}
	return b
}

// run are count bytes, no two neighbours the same, none of them 0.
func run(count, first int) []byte {
	b := make([]byte, count)
	for i := range b {
		b[i] = byte(1 + (first+i)%255)
	}
	return b
}

func draws(seed uint64) *rand.Rand { return rand.New(rand.NewPCG(seed, 4)) }

func drawn(r *rand.Rand, count int) []byte {
	b := make([]byte, count)
	for i := range b {
		b[i] = byte(r.Uint32())
	}
	return b
}

func shaKey(id, count int) api.Key {
	return api.Key{ID: id, Kind: api.KeySHA, Bytes: run(count, id)}
}

func cmacKey(id int) api.Key {
	return api.Key{ID: id, Kind: api.KeyCMAC, Bytes: run(16, id)}
}

// keyFits is what P4.4 says of a key.
func keyFits(k api.Key) api.Errno {
	sha := k.Kind == 1 && len(k.Bytes) > 0 && len(k.Bytes) < 33
	cmac := k.Kind == 2 && len(k.Bytes) == 16
	if k.ID > 0 && k.ID < 65536 && (sha || cmac) {
		return api.OK
	}
	return api.ErrKey
}

// digest is what P4.4 says, by the library.
func digest(k api.Key, b []byte) []byte {
	if k.Kind == 2 {
		m := cmacOf([16]byte(k.Bytes), b)
		return m[:]
	}
	h := sha256.New()
	h.Write(k.Bytes)
	h.Write(b)
	return h.Sum(nil)[:20]
}

// P4.4: IDs, kinds and numbers of bytes at their limits and next to them, each with each.
func TestCheckKey(t *testing.T) {
	for _, id := range []int{math.MinInt, -65535, -1, 0, 1, 2, 300, 65534, 65535, 65536, 65537, 1 << 32, 1<<32 + 1, math.MaxInt} {
		for _, kind := range []int{math.MinInt, -1, 0, 1, 2, 3, 257, 1<<32 + 1, math.MaxInt} {
			for _, count := range []int{0, 1, 2, 15, 16, 17, 20, 31, 32, 33, 64, 256 + 16} {
				k := api.Key{ID: id, Kind: kind, Bytes: run(count, 0)}
				want := keyFits(k)
				if got := auth.CheckKey(k); got != want {
					t.Errorf("CheckKey of ID %d, Kind %d, %d Bytes is %v, not %v", id, kind, count, got, want)
				}
				d, err := auth.Digest(k, []byte("x"))
				if err != want || want != api.OK && len(d) > 0 {
					t.Errorf("Digest of ID %d, Kind %d, %d Bytes is %x, %v", id, kind, count, d, err)
				}
			}
		}
	}
	check(t, []row[api.Errno]{
		{"CheckKey of no key", auth.CheckKey(api.Key{}), api.ErrKey},
		{"nil Bytes", auth.CheckKey(api.Key{ID: 1, Kind: api.KeySHA}), api.ErrKey},
		{"ID 65535 with 32 Bytes", auth.CheckKey(shaKey(65535, 32)), api.OK},
		{"ID 65536 with 32 Bytes", auth.CheckKey(shaKey(65536, 32)), api.ErrKey},
		{"ID 1 of KeyCMAC", auth.CheckKey(cmacKey(1)), api.OK},
	})
}

// P4.4: a digest is that of the key's bytes and the message behind them, or CMAC of the message.
func TestDigest(t *testing.T) {
	d, err := auth.Digest(api.Key{ID: 5, Kind: api.KeySHA, Bytes: []byte("a")}, []byte("bc"))
	if err != api.OK || hex.EncodeToString(d) != "ba7816bf8f01cfea414140de5dae2223b00361a3" {
		t.Errorf("Digest of the example is %x, %v", d, err)
	}
	for count := range 150 {
		message := run(count, 7)
		for _, k := range []api.Key{shaKey(1, 1), shaKey(2, 16), shaKey(65535, 32), cmacKey(9)} {
			if d, err := auth.Digest(k, message); err != api.OK || !bytes.Equal(d, digest(k, message)) {
				t.Errorf("Digest by the kind %d and %d Bytes of %d bytes is %x, %v", k.Kind, len(k.Bytes), count, d, err)
			}
		}
	}
	one, _ := auth.Digest(shaKey(1, 16), []byte("x"))
	other, _ := auth.Digest(api.Key{ID: 2, Kind: api.KeySHA, Bytes: run(16, 1)}, []byte("x"))
	if !bytes.Equal(one, other) {
		t.Error("the ID changes the digest")
	}
}

// R3: a digest is new memory, and tells nothing in its spare room; the key and the message stay as they are.
func TestDigestMemory(t *testing.T) {
	for _, kind := range []int{api.KeySHA, api.KeyCMAC} {
		room, message := run(40, 3), run(90, 5)
		k := api.Key{ID: 3, Kind: kind, Bytes: room[:16]}
		d, _ := auth.Digest(k, message[:60])
		again, _ := auth.Digest(k, message[:60])
		for _, b := range d[len(d):cap(d)] {
			if b != 0 {
				t.Fatalf("behind the digest stands %x", d[len(d):cap(d)])
			}
		}
		for i := range d[:cap(d)] {
			d[:cap(d)][i] = 0xee
		}
		if !bytes.Equal(room, run(40, 3)) || !bytes.Equal(message, run(90, 5)) || !bytes.Equal(again, digest(k, message[:60])) {
			t.Errorf("kind %d: %x, %x, %x", kind, room, message, again)
		}
	}
}

// P4.5.
func TestSame(t *testing.T) {
	check(t, []row[bool]{
		{"nothing and nothing", auth.Same(nil, nil), true},
		{"nil and no bytes", auth.Same(nil, []byte{}), true},
		{"nothing and a byte 0", auth.Same(nil, []byte{0}), false},
		{"a byte 0 and nothing", auth.Same([]byte{0}, nil), false},
		{"a byte 0 and two", auth.Same([]byte{0}, []byte{0, 0}), false},
		{"two bytes 0 and one", auth.Same([]byte{0, 0}, []byte{0}), false},
		{"1 2 and 2 1", auth.Same([]byte{1, 2}, []byte{2, 1}), false},
		{"two that differ by the same", auth.Same([]byte{1, 1}, []byte{2, 2}), false},
	})
	for count := 1; count < 40; count++ {
		a, b := run(count, 0), run(count, 0)
		if !auth.Same(a, b) || !auth.Same(a, a) {
			t.Errorf("Same of %d bytes is false", count)
		}
		for bit := range count * 8 {
			b[bit/8] ^= 1 << (bit % 8)
			if auth.Same(a, b) || auth.Same(b, a) {
				t.Errorf("Same of %d bytes with another bit %d is true", count, bit)
			}
			b[bit/8] ^= 1 << (bit % 8)
		}
		if auth.Same(a, b[:count-1]) || auth.Same(a[:count-1], b) {
			t.Errorf("Same of %d bytes and one fewer is true", count)
		}
		if !bytes.Equal(a, run(count, 0)) || !bytes.Equal(b, run(count, 0)) {
			t.Fatal("Same changes what it is given")
		}
	}
}

// P4.10.
func TestNak(t *testing.T) {
	modes := map[int]int{3: 4, 1: 2, 0: 0, 2: 2, 4: 4, 5: 5, 6: 6, 7: 7, -1: -1, math.MaxInt: math.MaxInt, math.MinInt: math.MinInt}
	for mode, want := range modes {
		q := api.Packet{
			Leap: 1, Version: 3, Mode: mode, Stratum: 2, Poll: 7, Precision: -18, Delay: 5, Disp: 6, RefID: 7,
			Ref: 8, Org: 9, Rec: 10, Xmt: 11, Exts: []api.Ext{{Type: 1, Data: run(24, 0)}}, KeyID: 12, MAC: run(20, 0),
		}
		n := auth.Nak(q)
		if !reflect.DeepEqual(n, api.Packet{Leap: 3, Version: 3, Mode: want, Stratum: 16, Poll: 7, Precision: -20, Org: 11, Nak: true}) {
			t.Errorf("Nak of the mode %d is %+v", mode, n)
		}
		if !auth.IsNak(n) || auth.IsNak(q) {
			t.Errorf("IsNak of Nak of the mode %d is false, or of the packet true", mode)
		}
	}
	zero := auth.Nak(api.Packet{})
	if !reflect.DeepEqual(zero, api.Packet{Leap: 3, Stratum: 16, Precision: -20, Nak: true}) {
		t.Errorf("Nak of nothing is %+v", zero)
	}
	wrong := auth.Nak(api.Packet{Version: -4, Poll: 1000, Xmt: math.MaxUint64, Nak: true})
	if wrong.Version != -4 || wrong.Poll != 1000 || wrong.Org != math.MaxUint64 || wrong.Xmt != 0 {
		t.Errorf("Nak of fields that may not be is %+v", wrong)
	}
}

// P4.10: Nak, a key and a digest, each with each.
func TestIsNak(t *testing.T) {
	check(t, []row[bool]{
		{"nothing", auth.IsNak(api.Packet{}), false},
		{"Nak", auth.IsNak(api.Packet{Nak: true}), true},
		{"Nak and no bytes", auth.IsNak(api.Packet{Nak: true, MAC: []byte{}}), true},
		{"Nak and a key", auth.IsNak(api.Packet{Nak: true, KeyID: 1}), false},
		{"Nak and a key below 0", auth.IsNak(api.Packet{Nak: true, KeyID: -1}), false},
		{"Nak and a byte", auth.IsNak(api.Packet{Nak: true, MAC: []byte{0}}), false},
		{"Nak, key and digest", auth.IsNak(api.Packet{Nak: true, KeyID: 1, MAC: run(16, 0)}), false},
		{"a key", auth.IsNak(api.Packet{KeyID: 1}), false},
		{"a digest", auth.IsNak(api.Packet{MAC: run(16, 0)}), false},
		{"key and digest", auth.IsNak(api.Packet{KeyID: 1, MAC: run(16, 0)}), false},
		{"Nak with fields", auth.IsNak(api.Packet{Nak: true, Mode: 3, Stratum: 2, Exts: make([]api.Ext, 5)}), true},
	})
}
