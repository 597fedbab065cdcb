package peer_test

import (
	"math"
	"math/big"
	"math/rand/v2"
	"reflect"
	"slices"
	"testing"

	"foliot/api"
	"foliot/peer"
)

const (
	second  = 1 << 32
	end     = 1<<64 - 1       // of an era
	longest = 281474976645120 // what FromShort of 2^32 - 1 is
	own     = 10<<24 + 9
)

// The signatures that the chapter lists.
var (
	_ func(a api.Assoc, own uint32) *peer.Peer                                     = peer.New
	_ func(p *peer.Peer, s api.System, poll int, xmt api.Stamp) (api.Packet, bool) = (*peer.Peer).Request
	_ func(p *peer.Peer, q api.Packet, rec api.Stamp, auth bool) (int, api.Sample) = (*peer.Peer).Hear
	_ func(p *peer.Peer) peer.Told                                                 = (*peer.Peer).Told
	_ func(p *peer.Peer)                                                           = (*peer.Peer).Clear
	_ func(p *peer.Peer) bool                                                      = (*peer.Peer).Waits
	_ func(org, rec, xmt, dst api.Stamp) (api.Span, api.Span)                      = peer.Exchange
	_ func(q api.Packet, own uint32) int                                           = peer.Header
	_ func(t peer.Told, b api.Best, now api.Stamp) api.Span                        = peer.Distance
	_ func(id int, a api.Assoc, t peer.Told, b api.Best, now api.Stamp) api.Cand   = peer.Candidate
	_                                                                              = peer.Told{Leap: 1, Stratum: 2, Poll: 3, Precision: 4, Delay: api.Span(5), Disp: api.Span(6), RefID: uint32(7), Ref: api.Stamp(8)}
)

// model says the promises by all that ever happened, and by numbers without end.
type model struct {
	assoc api.Assoc
	own   uint32
	story []deed
}

// deed is one thing that happened.
type deed struct {
	cleared bool
	asked   api.Stamp // the Xmt of a request; 0: there was none
	heard   bool
	q       api.Packet
	rec     api.Stamp
	verdict int
	first   bool // it made an echo, though it was not taken
}

// askedBy is by which mode each kind asks, 0 by none; the kinds are numbered from 0 on.
func askedBy(kind int) int {
	if kind < 0 || kind > 9 {
		return 0
	}
	return [...]int{0, 3, 1, 5, 3, 3, 0, 2, 0, 3}[kind]
}

// answeredBy is by which modes each kind is answered.
func answeredBy(kind int) []int {
	if kind < 0 || kind > 9 {
		return nil
	}
	return [...][]int{{}, {4}, {1, 2}, {}, {4}, {4}, {}, {1}, {5}, {4}}[kind]
}

func (m *model) request() (api.Stamp, bool) {
	for _, d := range slices.Backward(m.story) {
		switch {
		case d.asked != 0:
			return d.asked, true
		case d.cleared, d.heard && slices.Contains([]int{6, 7, 8, 9, 10, 0}, d.verdict):
			return 0, false
		}
	}
	return 0, false
}

func (m *model) last() (api.Stamp, bool) {
	for _, d := range slices.Backward(m.story) {
		if d.heard && (d.verdict == 6 || d.verdict == 0) {
			return d.q.Xmt, true
		}
	}
	return 0, false
}

func (m *model) echo() (xmt, at api.Stamp, is bool) {
	for _, d := range slices.Backward(m.story) {
		switch {
		case d.cleared:
			return 0, 0, false
		case d.heard && (d.verdict == 0 || d.first):
			return d.q.Xmt, d.rec, true
		}
	}
	return 0, 0, false
}

func (m *model) told() peer.Told {
	for _, d := range slices.Backward(m.story) {
		switch {
		case d.cleared:
			return peer.Told{}
		case d.heard && d.verdict == 0:
			q := d.q
			return peer.Told{Leap: q.Leap, Stratum: q.Stratum, Poll: q.Poll, Precision: q.Precision, Delay: q.Delay, Disp: q.Disp, RefID: q.RefID, Ref: q.Ref}
		}
	}
	return peer.Told{}
}

// ask says P10.2.
func (m *model) ask(s api.System, poll int, xmt api.Stamp) (api.Packet, bool) {
	mode := askedBy(m.assoc.Kind)
	if mode == 0 || mode == 5 && s.Leap == 3 {
		return api.Packet{}, false
	}
	q := api.Packet{Leap: s.Leap, Version: 4, Mode: mode, Precision: -20, RefID: s.RefID, Ref: s.Ref, Xmt: xmt}
	if slices.Contains([]int{1, 2, 3, 4, 5, 6, 7, 8, 9, 10, 11, 12, 13, 14, 15}, s.Stratum) {
		q.Stratum = s.Stratum
	}
	q.Poll = int(within(big.NewInt(int64(poll)), -128, 127).Int64())
	q.Delay = api.Span(within(whole(s.Delay), 0, longest).Int64())
	q.Disp = api.Span(within(whole(s.Disp), 0, longest).Int64())
	if xmt == 0 {
		q.Xmt = 1
	}
	if mode != 5 {
		q.Org, q.Rec, _ = m.echo()
		m.story = append(m.story, deed{asked: q.Xmt})
	}
	return q, true
}

// test is one of those that a packet goes through.
type test struct {
	verdict int
	fails   bool
}

func firstOf(l []test) int {
	for _, x := range l {
		if x.fails {
			return x.verdict
		}
	}
	return 0
}

// headerOf says P10.5.
func headerOf(q api.Packet, own uint32) int {
	far := added(over(whole(q.Delay), 1), whole(q.Disp))
	return firstOf([]test{
		{7, q.Leap == 3},
		{7, q.Stratum < 1},
		{7, q.Stratum > 15},
		{8, q.Delay < 0},
		{8, q.Disp < 0},
		{8, sinceOf(q.Xmt, q.Ref).Sign() < 0},
		{9, far.Cmp(big.NewInt(16*second)) > 0},
		{10, q.Stratum > 1 && q.RefID == own},
	})
}

// hear says P10.3.
func (m *model) hear(q api.Packet, rec api.Stamp, auth bool) (int, api.Sample) {
	request, waits := m.request()
	last, has := m.last()
	_, _, echoed := m.echo()
	asked := q.Mode != 5
	verdict := firstOf([]test{
		{1, !slices.Contains(answeredBy(m.assoc.Kind), q.Mode)},
		{2, has && q.Xmt == last},
		{2, has && !asked && sinceOf(q.Xmt, last).Sign() <= 0},
		{3, asked && !waits},
		{4, asked && q.Org != request},
		{5, m.assoc.Key != 0 && !auth},
		{6, q.Stratum == 0 && q.Leap == 3 && q.RefID != 0},
		{headerOf(q, m.own), headerOf(q, m.own) != 0},
	})
	first := (verdict == 3 || verdict == 4) && (q.Mode == 1 || q.Mode == 2) && q.Org == 0 && (m.assoc.Key == 0 || auth) && !echoed
	m.story = append(m.story, deed{heard: true, q: q, rec: rec, verdict: verdict, first: first})
	if verdict != 0 {
		return verdict, api.Sample{}
	}
	return 0, sampleOf(q, rec)
}

func sampleOf(q api.Packet, rec api.Stamp) api.Sample {
	disp := added(powerOf(q.Precision), big.NewInt(4096))
	if q.Mode == 5 {
		offset := added(sinceOf(q.Xmt, rec), big.NewInt(1<<23))
		return api.Sample{Offset: api.Span(offset.Int64()), Delay: 1 << 24, Disp: api.Span(disp.Int64()), At: rec}
	}
	offset, delay := exchangeOf(q.Org, q.Rec, q.Xmt, rec)
	disp = added(disp, wornOf(q.Org, rec))
	return api.Sample{Offset: offset, Delay: delay, Disp: api.Span(disp.Int64()), At: rec}
}

// exchangeOf says P10.4.
func exchangeOf(org, rec, xmt, dst api.Stamp) (api.Span, api.Span) {
	a, b := sinceOf(rec, org), sinceOf(xmt, dst)
	mean := saturated(over(new(big.Int).Add(a, b), 1))
	delay := saturated(new(big.Int).Sub(a, b))
	return api.Span(mean.Int64()), api.Span(max(delay.Int64(), 4096))
}

// distanceOf says P10.6.
func distanceOf(t peer.Told, b api.Best, now api.Stamp) api.Span {
	delay := added(whole(t.Delay), whole(b.Delay))
	if delay.Cmp(big.NewInt(1<<24)) < 0 {
		delay = big.NewInt(1 << 24)
	}
	return api.Span(added(over(delay, 1), whole(t.Disp), whole(b.Disp), whole(b.Jitter), wornOf(b.At, now)).Int64())
}

func whole(d api.Span) *big.Int { return big.NewInt(int64(d)) }

// over is x divided by 2^n, down.
func over(x *big.Int, n uint) *big.Int { return new(big.Int).Rsh(x, n) }

func within(x *big.Int, least, greatest int64) *big.Int {
	if x.Cmp(big.NewInt(least)) < 0 {
		return big.NewInt(least)
	}
	if x.Cmp(big.NewInt(greatest)) > 0 {
		return big.NewInt(greatest)
	}
	return x
}

func saturated(x *big.Int) *big.Int { return within(x, int64(-api.MaxSpan), int64(api.MaxSpan)) }

// added saturates behind each one that is added, from the left to the right.
func added(first *big.Int, others ...*big.Int) *big.Int {
	sum := first
	for _, x := range others {
		sum = saturated(new(big.Int).Add(sum, x))
	}
	return sum
}

// sinceOf says P2.1.
func sinceOf(a, b api.Stamp) *big.Int {
	era := new(big.Int).Lsh(big.NewInt(1), 64)
	d := new(big.Int).SetUint64(uint64(a))
	d.Sub(d, new(big.Int).SetUint64(uint64(b)))
	d.Mod(d, era)
	if d.Bit(63) == 1 {
		d.Sub(d, era)
	}
	return saturated(d)
}

// wornOf is 15 millionths of the time from one stamp to another, none of a time below 0.
func wornOf(from, to api.Stamp) *big.Int {
	d := sinceOf(to, from)
	if d.Sign() < 0 {
		return new(big.Int)
	}
	return over(new(big.Int).Mul(d, big.NewInt(4222124650)), 48)
}

// powerOf says P1.4.
func powerOf(n int) *big.Int {
	switch {
	case n < -32:
		return new(big.Int)
	case n > 30:
		return whole(api.MaxSpan)
	}
	return new(big.Int).Lsh(big.NewInt(1), uint(32+n))
}

// pair is an association beside what the promises say of it; each answer is held against them.
type pair struct {
	t *testing.T
	p *peer.Peer
	m model
}

func pairOf(t *testing.T, a api.Assoc) *pair {
	t.Helper()
	p := &pair{t: t, p: peer.New(a, own), m: model{assoc: a, own: own}}
	p.check()
	return p
}

// kindOf has no key.
func kindOf(t *testing.T, kind int) *pair {
	t.Helper()
	return pairOf(t, api.Assoc{Kind: kind})
}

// keyed has the key 5.
func keyed(t *testing.T, kind int) *pair {
	t.Helper()
	return pairOf(t, api.Assoc{Kind: kind, Key: 5})
}

func (p *pair) check() {
	p.t.Helper()
	if _, want := p.m.request(); p.p.Waits() != want {
		p.t.Fatalf("Waits is %v, want %v", p.p.Waits(), want)
	}
	if got, want := p.p.Told(), p.m.told(); got != want {
		p.t.Fatalf("Told is %+v, want %+v", got, want)
	}
}

func samePacket(a, b api.Packet) bool {
	for _, q := range []*api.Packet{&a, &b} {
		if len(q.Exts) == 0 {
			q.Exts = nil
		}
		if len(q.MAC) == 0 {
			q.MAC = nil
		}
	}
	return reflect.DeepEqual(a, b)
}

func (p *pair) ask(s api.System, poll int, xmt api.Stamp) (api.Packet, bool) {
	p.t.Helper()
	got, is := p.p.Request(s, poll, xmt)
	want, wantIs := p.m.ask(s, poll, xmt)
	if is != wantIs || !samePacket(got, want) {
		p.t.Fatalf("of kind %v Request(%+v, %v, %v) is\n%+v, %v, want\n%+v, %v", p.m.assoc.Kind, s, poll, xmt, got, is, want, wantIs)
	}
	p.check()
	return got, is
}

func (p *pair) hear(q api.Packet, rec api.Stamp, auth bool) (int, api.Sample) {
	p.t.Helper()
	got, sample := p.p.Hear(q, rec, auth)
	want, wantSample := p.m.hear(q, rec, auth)
	if got != want || sample != wantSample {
		p.t.Fatalf("of kind %v, key %v Hear(%+v, %v, %v) is\n%v, %+v, want\n%v, %+v", p.m.assoc.Kind, p.m.assoc.Key, q, rec, auth, got, sample, want, wantSample)
	}
	p.check()
	return got, sample
}

func (p *pair) clear() {
	p.t.Helper()
	p.p.Clear()
	p.m.story = append(p.m.story, deed{cleared: true})
	p.check()
}

// want says the verdict once more, written out.
func (p *pair) want(q api.Packet, rec api.Stamp, auth bool, want int) {
	p.t.Helper()
	if got, _ := p.hear(q, rec, auth); got != want {
		p.t.Errorf("of kind %v, key %v the verdict of %+v is %v, want %v", p.m.assoc.Kind, p.m.assoc.Key, q, got, want)
	}
}

func (p *pair) wantWaits(want bool) {
	p.t.Helper()
	if got := p.p.Waits(); got != want {
		p.t.Errorf("Waits is %v, want %v", got, want)
	}
}

func (p *pair) wantTold(want peer.Told) {
	p.t.Helper()
	if got := p.p.Told(); got != want {
		p.t.Errorf("Told is %+v, want %+v", got, want)
	}
}

// wantEcho asks: from then on the association waits, if it may ask.
func (p *pair) wantEcho(xmt, at api.Stamp) {
	p.t.Helper()
	q, is := p.ask(api.System{}, 6, 1<<40)
	if !is || q.Org != xmt || q.Rec != at {
		p.t.Errorf("the echo is %v, %v, want %v, %v", q.Org, q.Rec, xmt, at)
	}
}

// wantLast is by a packet that would be refused otherwise, and changes nothing.
func (p *pair) wantLast(mode int, xmt api.Stamp) {
	p.t.Helper()
	q := api.Packet{Mode: mode, Leap: api.LeapAlarm, Org: 1<<50 + 1, Xmt: xmt}
	if v, _ := p.hear(q, 0, false); v != api.VerdictDup {
		p.t.Errorf("a packet of %v is %v: it did not come", xmt, v)
	}
	for _, other := range []api.Stamp{xmt + 1, xmt + second} {
		q.Xmt = other
		if v, _ := p.hear(q, 0, false); v == api.VerdictDup {
			p.t.Errorf("a packet of %v came, behind %v", other, xmt)
		}
	}
}

// right is a packet that is taken, if org was asked; its fields are all different, as far as they may be.
func right(mode int, org, xmt api.Stamp) api.Packet {
	return api.Packet{
		Leap: 1, Version: 4, Mode: mode, Stratum: 2, Poll: 6, Precision: -18,
		Delay: 700, Disp: 800, RefID: 33, Ref: xmt - 2*second, Org: org, Rec: xmt - 5, Xmt: xmt,
	}
}

// toldOf is what a right packet tells.
func toldOf(xmt api.Stamp) peer.Told {
	return peer.Told{Leap: 1, Stratum: 2, Poll: 6, Precision: -18, Delay: 700, Disp: 800, RefID: 33, Ref: xmt - 2*second}
}

// talk is a kind with a mode that answers it.
type talk struct{ kind, mode int }

// asking are those in which something is asked.
func asking() []talk {
	return []talk{
		{api.KindServer, api.ModeServer},
		{api.KindPool, api.ModeServer},
		{api.KindManycast, api.ModeServer},
		{api.KindFound, api.ModeServer},
		{api.KindPeer, api.ModeActive},
		{api.KindPeer, api.ModePassive},
		{api.KindPassive, api.ModeActive},
	}
}

// symmetric are those in which a first echo may be heard.
func symmetric() []talk { return asking()[4:] }

func drawer(seed uint64) *rand.Rand { return rand.New(rand.NewPCG(10, seed)) }

func drawOf[T any](r *rand.Rand, l ...T) T { return l[r.IntN(len(l))] }

// drawSpan is of any length, often at an edge.
func drawSpan(r *rand.Rand) api.Span {
	if r.IntN(3) == 0 {
		return drawOf[api.Span](r, 0, 1, -1, 4095, 4096, 1<<24, 1<<24-1, second, 16*second, 16*second+1, 32*second, 32*second+1, longest, longest+1, api.MaxSpan, -api.MaxSpan, math.MaxInt64, math.MinInt64)
	}
	return api.Span(int64(r.Uint64()) >> r.IntN(64))
}

// drawStamp is any number of bits behind start, or ahead of it.
func drawStamp(r *rand.Rand, start api.Stamp) api.Stamp {
	return start + api.Stamp(int64(r.Uint64())>>r.IntN(64))
}

func drawInt(r *rand.Rand) int {
	if r.IntN(4) == 0 {
		return drawOf(r, math.MinInt, -129, -128, -33, -32, 30, 31, 127, 128, math.MaxInt)
	}
	return r.IntN(24) - 4
}

func drawSystem(r *rand.Rand) api.System {
	return api.System{
		Leap: r.IntN(5) - 1, Stratum: r.IntN(20) - 2, Poll: drawInt(r), Delay: drawSpan(r), Disp: drawSpan(r), RefID: r.Uint32(), Ref: api.Stamp(r.Uint64()),
		Offset: drawSpan(r), Jitter: drawSpan(r), Peer: drawInt(r), Freq: api.Freq(drawSpan(r)),
	}
}

// drawPacket is right in most of its fields; org is often its Org.
func drawPacket(r *rand.Rand, org api.Stamp) api.Packet {
	q := right(1+r.IntN(5), org, api.Stamp(r.IntN(6))*second)
	for range r.IntN(4) {
		spoil(r, &q)
	}
	return q
}

// spoil changes one field, so that it is wrong, or at an edge.
func spoil(r *rand.Rand, q *api.Packet) {
	switch r.IntN(16) {
	case 0:
		q.Mode = drawInt(r)
	case 1:
		q.Leap = drawOf(r, api.LeapAlarm, api.LeapAlarm, 0, 4, -1)
	case 2:
		q.Stratum = drawOf(r, 0, 1, 15, 16, drawInt(r))
	case 3:
		q.Leap, q.Stratum = api.LeapAlarm, 0
	case 4:
		q.Delay = drawSpan(r)
	case 5:
		q.Disp = drawSpan(r)
	case 6:
		q.Delay, q.Disp = api.Span(r.Int64N(48*second)), api.Span(r.Int64N(24*second))
	case 7:
		q.RefID = drawOf[uint32](r, 0, own, own, own+1)
	case 8:
		q.Ref = drawStamp(r, q.Xmt)
	case 9:
		q.Org = drawOf(r, 0, 0, q.Org+1, api.Stamp(r.Uint64()))
	case 10:
		q.Rec = drawStamp(r, q.Xmt)
	case 11:
		q.Xmt = drawStamp(r, q.Xmt)
		q.Ref = q.Xmt
	case 12:
		q.Xmt += 1 << 63
		q.Ref = q.Xmt
	case 13:
		q.Precision = drawInt(r)
	case 14:
		q.Poll, q.Version = drawInt(r), drawInt(r)
	case 15:
		q.KeyID, q.Nak, q.MAC = drawInt(r), true, []byte{1, 2}
	}
}
