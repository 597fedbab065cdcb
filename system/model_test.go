package system_test

import (
	"math"
	"math/big"
	"math/rand/v2"
	"testing"

	"foliot/api"
	"foliot/system"
)

const (
	least    = math.MinInt
	greatest = math.MaxInt
	lowest   = api.Span(math.MinInt64)
	top      = api.Span(math.MaxInt64)
	most     = api.MaxSpan
	second   = api.Second
	sixteen  = 16 * second
	wide     = api.Span(1<<32-1) << 16 // the greatest one that a packet has room for
	last     = api.Stamp(math.MaxUint64)
	s        = api.Stamp(1) << 32
)

// The signatures and the type that the chapter lists.
var (
	_ func(c api.Config) api.System                                                     = system.New
	_ func(s api.System, now api.Stamp) api.System                                      = system.Age
	_ func(s api.System, now api.Stamp) api.Span                                        = system.Distance
	_ func(s api.System) bool                                                           = system.Synced
	_ func(s api.System, l system.Lead, f api.Freq, poll int, now api.Stamp) api.System = system.Follow
	_ func(s api.System, c api.Config, now api.Stamp) api.System                        = system.Orphan
	_ func(s api.System) api.System                                                     = system.Lose
	_ func(s api.System, q api.Packet, rec, xmt api.Stamp) (api.Packet, bool)           = system.Reply

	_ = system.Lead(struct {
		Peer           int
		Leap, Stratum  int
		Delay, Disp    api.Span
		RefID          uint32
		Best           api.Best
		Offset, Jitter api.Span
	}{})
)

func whole[T ~int | ~int64](n T) *big.Int { return big.NewInt(int64(n)) }

func plus(a, b *big.Int) *big.Int { return new(big.Int).Add(a, b) }

func times(a, b *big.Int) *big.Int { return new(big.Int).Mul(a, b) }

// over divides down; b is above 0.
func over(a, b *big.Int) *big.Int { return new(big.Int).Div(a, b) }

func pow(n int) *big.Int { return new(big.Int).Lsh(whole(1), uint(n)) }

// between is a, not below the one and not above the other.
func between(a, low, high *big.Int) *big.Int {
	switch {
	case a.Cmp(low) < 0:
		return low
	case a.Cmp(high) > 0:
		return high
	}
	return a
}

func saturated(a *big.Int) *big.Int { return between(a, whole(-most), whole(most)) }

// insideOf says what INSIDE a limit means.
func insideOf[T ~int | ~int64](a *big.Int, limit T) T {
	return T(between(a, whole(0), whole(limit)).Int64())
}

// goneOf is how long now lies behind ref, by the nearer way round an era; 0, if it does not.
func goneOf(now, ref api.Stamp) *big.Int {
	gone := new(big.Int).Sub(new(big.Int).SetUint64(uint64(now)), new(big.Int).SetUint64(uint64(ref)))
	gone.Mod(gone, pow(64))
	if gone.Cmp(pow(63)) >= 0 {
		return whole(0)
	}
	return saturated(gone)
}

// dispOf says Age's Disp.
func dispOf(y api.System, now api.Stamp) api.Span {
	drift := saturated(over(times(whole(4222124650), goneOf(now, y.Ref)), pow(48)))
	return insideOf(saturated(plus(whole(y.Disp), drift)), sixteen)
}

// ageOf says P17.2, as do the two behind it.
func ageOf(y api.System, now api.Stamp) api.System {
	y.Disp = dispOf(y, now)
	return y
}

func distanceOf(y api.System, now api.Stamp) api.Span {
	half := over(whole(y.Delay), whole(2))
	return api.Span(saturated(plus(half, whole(dispOf(y, now)))).Int64())
}

func syncedOf(y api.System) bool {
	for stratum := 1; stratum <= 15; stratum++ {
		if y.Stratum == stratum {
			return y.Leap != 3
		}
	}
	return false
}

// followOf says P17.3.
func followOf(l system.Lead, f api.Freq, poll int, now api.Stamp) api.System {
	disp := whole(l.Disp)
	for _, more := range []*big.Int{whole(l.Best.Disp), saturated(new(big.Int).Abs(whole(l.Offset))), whole(l.Jitter)} {
		disp = saturated(plus(disp, more))
	}
	var y api.System
	y.Leap = l.Leap
	y.Stratum = insideOf(plus(whole(l.Stratum), whole(1)), 16)
	y.Poll = int(between(whole(poll), whole(3), whole(10)).Int64())
	y.Delay = insideOf(saturated(plus(whole(l.Delay), whole(l.Best.Delay))), sixteen)
	y.Disp = insideOf(disp, sixteen)
	y.RefID = l.RefID
	y.Ref = now
	y.Offset = l.Offset
	y.Jitter = l.Jitter
	y.Peer = l.Peer
	y.Freq = f
	return y
}

// orphanOf says P17.4, as does the one behind it: all that they name, one by one, the rest as it was.
func orphanOf(y api.System, c api.Config, now api.Stamp) api.System {
	if c.Orphan < 1 || c.Orphan > 15 {
		return y
	}
	return api.System{
		Leap: 0, Stratum: c.Orphan, RefID: 127<<24 + 1, Delay: 0, Disp: 4194304, Ref: now, Peer: 0,
		Poll: y.Poll, Offset: y.Offset, Jitter: y.Jitter, Freq: y.Freq,
	}
}

func loseOf(y api.System) api.System {
	return api.System{
		Leap: 3, Stratum: 16, RefID: 0, Peer: 0,
		Poll: y.Poll, Delay: y.Delay, Disp: y.Disp, Ref: y.Ref, Offset: y.Offset, Jitter: y.Jitter, Freq: y.Freq,
	}
}

// packet is a packet's fields that are not lists, so that two may be held against each other by ==.
type packet struct {
	leap, version, mode, stratum, poll, precision int
	delay, disp                                   api.Span
	refID                                         uint32
	ref, org, rec, xmt                            api.Stamp
	exts, mac                                     int // how many
	key                                           int
	nak                                           bool
}

func flat(p api.Packet) packet {
	return packet{
		leap: p.Leap, version: p.Version, mode: p.Mode, stratum: p.Stratum, poll: p.Poll, precision: p.Precision,
		delay: p.Delay, disp: p.Disp, refID: p.RefID, ref: p.Ref, org: p.Org, rec: p.Rec, xmt: p.Xmt,
		exts: len(p.Exts), mac: len(p.MAC), key: p.KeyID, nak: p.Nak,
	}
}

// replyOf says P17.5.
func replyOf(y api.System, q api.Packet, rec, xmt api.Stamp) (packet, bool) {
	var p packet
	switch q.Mode {
	case 3:
		p.mode = 4
	case 1:
		p.mode = 2
	default:
		return packet{}, false
	}
	p.leap = int(new(big.Int).Mod(whole(y.Leap), whole(4)).Int64())
	p.version = int(between(whole(q.Version), whole(1), whole(4)).Int64())
	if y.Stratum > 0 && y.Stratum < 16 {
		p.stratum = y.Stratum
	}
	p.poll = int(between(whole(q.Poll), whole(-128), whole(127)).Int64())
	p.precision = -20
	p.delay = insideOf(whole(y.Delay), wide)
	p.disp = insideOf(whole(dispOf(y, xmt)), wide)
	p.refID = y.RefID
	p.ref = y.Ref
	p.org = q.Xmt
	p.rec = rec
	p.xmt = xmt
	if xmt == 0 {
		p.xmt = 1
	}
	return p, true
}

// Systems of which a test asks: behind New, with each field something else, and a plain one.
func plain() api.System {
	return api.System{Leap: 0, Stratum: 3, Poll: 6, Delay: 2000, Disp: 1000, RefID: 9, Ref: 5 * s, Offset: -7, Jitter: 4096, Peer: 2, Freq: -11}
}

func but(y api.System, f func(y *api.System)) api.System {
	f(&y)
	return y
}

// The holders ask twice, and hold both answers against the promise.

func holdAge(t *testing.T, y api.System, now api.Stamp) {
	t.Helper()
	for range 2 {
		if got, want := system.Age(y, now), ageOf(y, now); got != want {
			t.Fatalf("Age of %+v at %d is %+v, not %+v", y, now, got, want)
		}
		if got, want := system.Distance(y, now), distanceOf(y, now); got != want {
			t.Fatalf("Distance of %+v at %d is %d, not %d", y, now, got, want)
		}
		if got, want := system.Synced(y), syncedOf(y); got != want {
			t.Fatalf("Synced of %+v is %t", y, got)
		}
	}
}

func holdFollow(t *testing.T, y api.System, l system.Lead, f api.Freq, poll int, now api.Stamp) {
	t.Helper()
	for range 2 {
		if got, want := system.Follow(y, l, f, poll, now), followOf(l, f, poll, now); got != want {
			t.Fatalf("Follow of %+v, %+v, %d, %d, %d is %+v, not %+v", y, l, f, poll, now, got, want)
		}
	}
}

func holdOrphan(t *testing.T, y api.System, c api.Config, now api.Stamp) {
	t.Helper()
	for range 2 {
		if got, want := system.Orphan(y, c, now), orphanOf(y, c, now); got != want {
			t.Fatalf("Orphan of %+v, %d, %d is %+v, not %+v", y, c.Orphan, now, got, want)
		}
		if got, want := system.Lose(y), loseOf(y); got != want {
			t.Fatalf("Lose of %+v is %+v, not %+v", y, got, want)
		}
	}
}

func holdReply(t *testing.T, y api.System, q api.Packet, rec, xmt api.Stamp) {
	t.Helper()
	want, is := replyOf(y, q, rec, xmt)
	for range 2 {
		if got, ok := system.Reply(y, q, rec, xmt); flat(got) != want || ok != is {
			t.Fatalf("Reply of %+v, %+v, %d, %d is %+v and %t, not %+v and %t", y, q, rec, xmt, got, ok, want, is)
		}
	}
}

// spans are edges of a span, of a root's cut, of what a packet has room for.
var spans = []api.Span{
	lowest, lowest + 1, -most - 1, -most, 1 - most, -wide, -sixteen - 1, -sixteen, -second, -2, -1, 0, 1, 2, 3, second,
	sixteen - 2, sixteen - 1, sixteen, sixteen + 1, wide - 1, wide, wide + 1, most - 1, most, most + 1, top - 1, top,
}

// numbers are edges of strata, poll exponents, versions and bytes.
var numbers = []int{
	least, least + 1, -1 << 32, -129, -128, -127, -4, -3, -2, -1, 0, 1, 2, 3, 4, 5, 6, 7, 8, 9, 10, 11, 13, 14, 15, 16, 17,
	126, 127, 128, 255, 256, 1 << 32, greatest - 1, greatest,
}

// stamps are edges of an era.
var stamps = []api.Stamp{0, 1, 2, s, 5 * s, 1 << 62, 1<<63 - 1, 1 << 63, 1<<63 + 1, 3 << 62, last - s, last - 1, last}

func drawer(seed uint64) *rand.Rand { return rand.New(rand.NewPCG(17, seed)) }

func one[T any](r *rand.Rand, l []T) T { return l[r.IntN(len(l))] }

func drawSpan(r *rand.Rand) api.Span {
	if r.IntN(3) == 0 {
		return one(r, spans)
	}
	return api.Span(r.Uint64()) >> r.IntN(64)
}

func drawNumber(r *rand.Rand) int {
	switch r.IntN(3) {
	case 0:
		return one(r, numbers)
	case 1:
		return r.IntN(24) - 4
	}
	return int(r.Uint64()) >> r.IntN(64)
}

func drawStamp(r *rand.Rand) api.Stamp {
	if r.IntN(4) == 0 {
		return one(r, stamps)
	}
	return api.Stamp(r.Uint64()) >> r.IntN(64)
}

func drawSystem(r *rand.Rand) api.System {
	return api.System{
		Leap: drawNumber(r), Stratum: drawNumber(r), Poll: drawNumber(r), Delay: drawSpan(r), Disp: drawSpan(r), RefID: r.Uint32(),
		Ref: drawStamp(r), Offset: drawSpan(r), Jitter: drawSpan(r), Peer: drawNumber(r), Freq: api.Freq(drawSpan(r)),
	}
}

func drawLead(r *rand.Rand) system.Lead {
	return system.Lead{
		Peer: drawNumber(r), Leap: drawNumber(r), Stratum: drawNumber(r), Delay: drawSpan(r), Disp: drawSpan(r), RefID: r.Uint32(),
		Best:   api.Best{Offset: drawSpan(r), Delay: drawSpan(r), Disp: drawSpan(r), Jitter: drawSpan(r), At: drawStamp(r), New: r.IntN(2) == 0},
		Offset: drawSpan(r), Jitter: drawSpan(r),
	}
}

func drawPacket(r *rand.Rand) api.Packet {
	q := api.Packet{
		Leap: drawNumber(r), Version: drawNumber(r), Mode: r.IntN(10) - 1, Stratum: drawNumber(r), Poll: drawNumber(r), Precision: drawNumber(r),
		Delay: drawSpan(r), Disp: drawSpan(r), RefID: r.Uint32(), Ref: drawStamp(r), Org: drawStamp(r), Rec: drawStamp(r), Xmt: drawStamp(r),
		KeyID: drawNumber(r), Nak: r.IntN(2) == 0,
	}
	if r.IntN(2) == 0 {
		q.Exts, q.MAC = []api.Ext{{Type: 5, Data: make([]byte, 24)}}, make([]byte, 20)
	}
	return q
}
