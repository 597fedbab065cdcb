package restrict_test

import (
	"math"
	"math/rand/v2"
	"reflect"
	"strings"
	"testing"

	"foliot/api"
	"foliot/restrict"
)

func TestKissCode(t *testing.T) {
	for _, x := range []struct {
		s    string
		want uint32
	}{
		{"RATE", 0x52415445},
		{"DENY", 0x44454E59},
		{"RSTR", 0x52535452},
		{"RATED", 0},
		{"ab", 0},
		{"X", 0x58000000},
		{"AZ", 0x415A0000},
		{"ABC", 0x41424300},
		{"AAAA", 0x41414141},
		{"ZZZZ", 0x5A5A5A5A},
		{"", 0},
		{"a", 0}, {"z", 0}, {"rATE", 0}, {"RaTE", 0}, {"RAtE", 0}, {"RATe", 0},
		{"@", 0}, {"[", 0}, {"A@", 0}, {"A[", 0},
		{"RATE ", 0}, {" RAT", 0}, {"RAT ", 0}, {"RAT\x00", 0}, {"\x00", 0}, {"A\x00B", 0},
		{"RAT1", 0}, {"A.B", 0}, {"Ä", 0}, {"ÄB", 0}, {"A\xffB", 0}, {"\xc1", 0}, {"Ａ", 0},
		{"RATERATE", 0}, {strings.Repeat("A", 1000), 0},
	} {
		if c := restrict.KissCode(x.s); c != x.want {
			t.Errorf("KissCode(%q) is %x, want %x", x.s, c, x.want)
		}
	}
}

func TestKissCodeEachByte(t *testing.T) {
	for b := range 256 {
		for at := range 4 {
			text := []byte("QQQQ")
			text[at] = byte(b)
			want := uint32(0)
			if strings.ContainsRune("ABCDEFGHIJKLMNOPQRSTUVWXYZ", rune(b)) {
				want = uint32(text[0])*1<<24 + uint32(text[1])*1<<16 + uint32(text[2])*1<<8 + uint32(text[3])
			}
			if c := restrict.KissCode(string(text)); c != want {
				t.Errorf("KissCode(%q) is %x, want %x", text, c, want)
			}
		}
	}
}

// request has a value in each field, so that one that Death takes over would be seen.
func request() api.Packet {
	return api.Packet{
		Leap: 1, Version: 4, Mode: api.ModeClient, Stratum: 3, Poll: 6, Precision: -7, Delay: 11, Disp: 12, RefID: 13,
		Ref: 14, Org: 15, Rec: 16, Xmt: 17, Exts: []api.Ext{{Type: 1, Data: []byte{1}}}, KeyID: 18, Nak: true, MAC: []byte{19},
	}
}

func wantDeath(t *testing.T, q api.Packet, code uint32, poll int, want api.Packet) {
	t.Helper()
	got := restrict.Death(q, code, poll)
	if len(got.Exts) == 0 {
		got.Exts = nil
	}
	if len(got.MAC) == 0 {
		got.MAC = nil
	}
	if !reflect.DeepEqual(got, want) {
		t.Errorf("Death(%v, %x, %v) is %v, want %v", q, code, poll, got, want)
	}
}

func TestDeath(t *testing.T) {
	want := api.Packet{Leap: 3, Version: 4, Mode: 4, Poll: 8, Precision: -20, RefID: 0x52415445, Org: 17, Rec: 17, Xmt: 17}
	wantDeath(t, request(), 0x52415445, 8, want)
	want.RefID = 0
	wantDeath(t, request(), 0, 8, want)
	want.RefID = 1<<32 - 1
	wantDeath(t, request(), 1<<32-1, 8, want)
	q := request()
	q.Xmt, want.Org, want.Rec, want.Xmt = 1<<64-1, 1<<64-1, 1<<64-1, 1<<64-1
	wantDeath(t, q, 1<<32-1, 8, want)
	for _, version := range []int{math.MinInt, -1, 0, 1, 3, 7, 8, math.MaxInt} {
		q.Version, want.Version = version, version
		wantDeath(t, q, 1<<32-1, 8, want)
	}
	// Of a packet without anything the code and what Death says itself are left.
	wantDeath(t, api.Packet{}, 5, 0, api.Packet{Leap: 3, Poll: 3, Precision: -20, RefID: 5})
}

func TestDeathModes(t *testing.T) {
	for mode, answer := range map[int]int{
		math.MinInt: math.MinInt, -1: -1, 0: 0, api.ModeActive: api.ModePassive, api.ModePassive: api.ModePassive, api.ModeClient: api.ModeServer,
		api.ModeServer: api.ModeServer, api.ModeBroadcast: api.ModeBroadcast, api.ModeControl: api.ModeControl, 7: 7, 8: 8, math.MaxInt: math.MaxInt,
	} {
		q := request()
		q.Mode = mode
		if got := restrict.Death(q, 1, 6).Mode; got != answer {
			t.Errorf("Death of the mode %v has the mode %v, want %v", mode, got, answer)
		}
	}
}

func TestDeathPolls(t *testing.T) {
	for _, x := range []struct{ asked, poll, want int }{
		{6, 6, 6}, {6, 7, 7}, {7, 6, 7}, {3, 3, 3}, {10, 10, 10},
		{2, 2, 3}, {2, 3, 3}, {3, 2, 3}, {0, 0, 3}, {-1, -1, 3}, {math.MinInt, math.MinInt, 3}, {math.MinInt, 5, 5}, {5, math.MinInt, 5},
		{10, 11, 10}, {11, 10, 10}, {11, 3, 10}, {3, 11, 10}, {17, 0, 10}, {0, 17, 10}, {math.MaxInt, math.MinInt, 10}, {math.MinInt, math.MaxInt, 10},
		{4, 3, 4}, {3, 4, 4}, {9, 2, 9}, {2, 9, 9},
	} {
		q := request()
		q.Poll = x.asked
		if got := restrict.Death(q, 1, x.poll).Poll; got != x.want {
			t.Errorf("Death of the poll %v with %v has the poll %v, want %v", x.asked, x.poll, got, x.want)
		}
	}
}

func TestDeathLeavesTheRequest(t *testing.T) {
	q := request()
	d := restrict.Death(q, 1, 6)
	d.Exts, d.MAC = append(d.Exts, api.Ext{}), append(d.MAC, 0)
	if !reflect.DeepEqual(q, request()) {
		t.Errorf("Death changes the request to %v", q)
	}
	if restrict.IsDeath(q); !reflect.DeepEqual(q, request()) {
		t.Errorf("IsDeath changes the packet to %v", q)
	}
}

func TestIsDeath(t *testing.T) {
	for leap := -1; leap <= 5; leap++ {
		for _, stratum := range []int{math.MinInt, -1, 0, 1, 2, 15, 16, 256, math.MaxInt} {
			for _, id := range []uint32{0, 1, 0x44454E59, 1 << 31, 1<<32 - 1} {
				p := request()
				p.Leap, p.Stratum, p.RefID = leap, stratum, id
				code, is := restrict.IsDeath(p)
				if leap == 3 && stratum == 0 && id != 0 {
					if code != id || !is {
						t.Errorf("IsDeath(%v) is %x, %v", p, code, is)
					}
				} else if code != 0 || is {
					t.Errorf("IsDeath(%v) is %x, %v", p, code, is)
				}
			}
		}
	}
}

// What Death makes of a code is one for IsDeath, whatever the request, unless the code is 0.
func TestDeathIsDeath(t *testing.T) {
	if c, is := restrict.IsDeath(restrict.Death(request(), restrict.KissCode("DENY"), 6)); c != 0x44454E59 || !is {
		t.Errorf("IsDeath of a DENY is %x, %v", c, is)
	}
	if c, is := restrict.IsDeath(restrict.Death(request(), restrict.KissCode("deny"), 6)); c != 0 || is {
		t.Errorf("IsDeath of the code 0 is %x, %v", c, is)
	}
	r := rand.New(rand.NewPCG(66, 6))
	for range 1000 {
		q := api.Packet{Leap: r.IntN(4), Mode: r.IntN(8), Stratum: r.IntN(17), Poll: r.IntN(20) - 5, Xmt: api.Stamp(r.Uint64()), RefID: r.Uint32()}
		code := 1 + uint32(r.IntN(1<<31))
		if c, is := restrict.IsDeath(restrict.Death(q, code, r.IntN(20)-5)); c != code || !is {
			t.Fatalf("IsDeath of Death(%v, %x, ..) is %x, %v", q, code, c, is)
		}
	}
}
