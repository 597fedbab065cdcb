package peer_test

import (
	"math"
	"testing"

	"foliot/api"
	"foliot/peer"
)

func wantExchange(t *testing.T, org, rec, xmt, dst api.Stamp, offset, delay api.Span) {
	t.Helper()
	o, d := peer.Exchange(org, rec, xmt, dst)
	if o != offset || d != delay {
		t.Errorf("Exchange(%v, %v, %v, %v) is %v, %v, want %v, %v", org, rec, xmt, dst, o, d, offset, delay)
	}
	if o, d := exchangeOf(org, rec, xmt, dst); o != offset || d != delay {
		t.Errorf("by the promise it is %v, %v", o, d)
	}
}

// P10.4: the chapter's examples, and others; all of them anywhere in an era.
func TestExchange(t *testing.T) {
	const s = second
	for _, x := range []struct {
		org, rec, xmt, dst api.Stamp
		offset, delay      api.Span
	}{
		{10 * s, 15 * s, 16 * s, 13 * s, 4 * s, 2 * s},
		{0, 0, 0, 0, 0, 4096},
		// Each of the four alone.
		{2 * s, 0, 0, 0, -s, 4096},
		{0, 2 * s, 0, 0, s, 2 * s},
		{0, 0, 2 * s, 0, s, 4096},
		{0, 0, 0, 2 * s, -s, 2 * s},
		// Halves go down.
		{0, 1, 0, 0, 0, 4096},
		{0, 0, 0, 1, -1, 4096},
		{0, 3, 0, 0, 1, 4096},
		{0, 0, 0, 3, -2, 4096},
		// Delays below 2^12, at it, above it, and below 0.
		{0, 0, 0, 4095, -2048, 4096},
		{0, 0, 0, 4096, -2048, 4096},
		{0, 0, 0, 4097, -2049, 4097},
		{0, 4095, 0, 0, 2047, 4096},
		{0, 4096, 0, 0, 2048, 4096},
		{0, 4097, 0, 0, 2048, 4097},
		{4097, 0, 0, 0, -2049, 4096},
		{0, 0, 4097, 0, 2048, 4096},
		{0, 0, 100 * s, 10 * s, 45 * s, 4096},
	} {
		for _, start := range []api.Stamp{0, 1, 1 << 62, 1 << 63, end, end - 12*s} {
			wantExchange(t, start+x.org, start+x.rec, start+x.xmt, start+x.dst, x.offset, x.delay)
		}
		// The other clock is another one: it may be anywhere.
		wantExchange(t, x.org, x.rec+1<<40, x.xmt+1<<40, x.dst, x.offset+1<<40, x.delay)
		wantExchange(t, x.org+1<<40, x.rec, x.xmt, x.dst+1<<40, x.offset-1<<40, x.delay)
	}
}

// P10.4: times of half an era are cut ahead of the mean, their difference behind it.
func TestExchangeSaturates(t *testing.T) {
	const most = api.MaxSpan
	for _, x := range []struct {
		org, rec, xmt, dst api.Stamp
		offset, delay      api.Span
	}{
		{0, 1 << 62, 1 << 62, 0, most, 4096},
		{0, 1<<63 - 1, 1<<63 - 1, 0, most, 4096},
		{0, 1 << 63, 1 << 63, 0, -most, 4096},
		{0, 1<<63 + 1, 1<<63 + 1, 0, -most, 4096},
		{0, 1 << 62, 0, 1 << 62, 0, most},
		{0, 1<<63 - 1, 0, 1<<63 - 1, 0, most},
		{1 << 62, 0, 1 << 62, 0, 0, 4096},
		{0, 1 << 61, 0, 1 << 61, 0, most},
		{0, 1 << 61, 0, 1<<61 - 1, 0, most - 1},
		{0, 1<<63 - 1, 0, 0, most / 2, most},
		{0, 1 << 63, 0, 0, -most / 2, 4096},
		{0, 0, 1<<63 - 1, 0, most / 2, 4096},
		{0, 0, 1 << 63, 0, -most / 2, most},
	} {
		wantExchange(t, x.org, x.rec, x.xmt, x.dst, x.offset, x.delay)
	}
}

// P10.4: four stamps that are drawn.
func TestExchangeDrawn(t *testing.T) {
	r := drawer(1)
	for range 100000 {
		org := api.Stamp(r.Uint64())
		rec, xmt, dst := drawStamp(r, org), drawStamp(r, org), drawStamp(r, org)
		offset, delay := exchangeOf(org, rec, xmt, dst)
		wantExchange(t, org, rec, xmt, dst, offset, delay)
	}
}

// taken is what comes of a packet that answers.
func taken(t *testing.T, kind int, q api.Packet, rec api.Stamp) api.Sample {
	t.Helper()
	p := kindOf(t, kind)
	p.ask(synced(), 6, q.Org)
	v, sample := p.hear(q, rec, false)
	if v != api.VerdictTaken {
		t.Fatalf("the verdict of %+v is %v", q, v)
	}
	return sample
}

// P10.3: the sample of an exchange: whose times are which.
func TestSample(t *testing.T) {
	for _, x := range asking() {
		q := right(x.mode, 10*second, 16*second)
		q.Rec, q.Precision = 15*second, -20
		// A wear of 3 s behind 2 * 2^-20 s.
		want := api.Sample{Offset: 4 * second, Delay: 2 * second, Disp: 8192 + 193273, At: 13 * second}
		if got := taken(t, x.kind, q, 13*second); got != want {
			t.Errorf("the sample is %+v, want %+v", got, want)
		}
	}
}

// P10.3: Rec, Xmt and rec in whatever order, so that the delay is negative, and the wear none.
func TestSampleOrders(t *testing.T) {
	for _, x := range asking() {
		for _, rec := range []api.Stamp{1, 5 * second, 10*second - 1, 10 * second, 10*second + 4096, 10*second + 66667, 90 * second, end - second} {
			for _, at := range []api.Stamp{second, 10 * second, 50 * second} {
				for _, xmt := range []api.Stamp{second, 10 * second, 30 * second, 60 * second} {
					q := right(x.mode, 10*second, xmt)
					q.Rec = at
					taken(t, x.kind, q, rec)
				}
			}
		}
	}
}

// P10.3: the dispersion of an exchange: both precisions, and the wear.
func TestSampleDisp(t *testing.T) {
	const most = api.MaxSpan
	for _, x := range []struct {
		precision int
		age       api.Stamp
		want      api.Span
	}{
		{-20, 0, 8192},
		{-33, 0, 4096},
		{-34, 0, 4096},
		{math.MinInt, 0, 4096},
		{-32, 0, 4097},
		{-18, 0, 16384 + 4096},
		{0, 0, second + 4096},
		{29, 0, most/2 + 4096},
		{30, 0, most},
		{31, 0, most},
		{127, 0, most},
		{math.MaxInt, 0, most},
		{-20, 1, 8192},
		{-20, 66666, 8192},
		{-20, 66667, 8193},
		{-20, second, 8192 + 64424},
		{-20, 2 * second, 8192 + 128849},
		{-33, second, 4096 + 64424},
		{30, second, most},
		{-20, 1 << 62, 8192 + 4222124650<<14},
		{-20, 1<<63 - 1, 8192 + 4222124650<<14},
		// Of a time below 0 there is none.
		{-20, 1 << 63, 8192},
		{-20, end, 8192},
		{-20, end - second, 8192},
	} {
		for _, org := range []api.Stamp{1, second, 1 << 63, end} {
			for _, a := range asking() {
				q := right(a.mode, org, 40*second)
				q.Precision = x.precision
				if got := taken(t, a.kind, q, org+x.age); got.Disp != x.want || got.At != org+x.age {
					t.Errorf("Precision %v, %v behind %v: %+v, want %v", x.precision, x.age, org, got, x.want)
				}
			}
		}
	}
}

// P10.3: the sample of a broadcast: neither Org nor Rec count, nor is there a wear.
func TestSampleOfBroadcast(t *testing.T) {
	const most = api.MaxSpan
	for _, x := range []struct {
		behind api.Stamp // of Xmt behind rec
		offset api.Span
	}{
		{0, 1 << 23},
		{1, 1<<23 + 1},
		{end, 1<<23 - 1},
		{5 * second, 5*second + 1<<23},
		{end - 1<<23 + 1, 0},
		{end - 5*second + 1, -5*second + 1<<23},
		{1<<62 - 1<<23 - 1, most - 1},
		{1<<62 - 1<<23, most},
		{1<<62 - 1<<23 + 1, most},
		{1 << 62, most},
		{1<<63 - 1, most},
		{1 << 63, -most + 1<<23},
		{3 << 62, -most + 1<<23},
		{3<<62 + 1, -most + 1<<23 + 1},
	} {
		for _, rec := range []api.Stamp{0, 1, second, 1 << 63, end} {
			for _, org := range []api.Stamp{0, 7, rec - second, end} {
				q := right(api.ModeBroadcast, org, rec+x.behind)
				q.Rec = org
				want := api.Sample{Offset: x.offset, Delay: 1 << 24, Disp: 16384 + 4096, At: rec}
				if got := taken(t, api.KindListen, q, rec); got != want {
					t.Errorf("of %+v at %v the sample is %+v, want %+v", q, rec, got, want)
				}
			}
		}
	}
	for _, x := range []struct {
		precision int
		disp      api.Span
	}{{-33, 4096}, {-32, 4097}, {-20, 8192}, {0, second + 4096}, {29, most/2 + 4096}, {30, most}, {math.MaxInt, most}, {math.MinInt, 4096}} {
		q := right(api.ModeBroadcast, 7, 40*second)
		q.Precision = x.precision
		if got := taken(t, api.KindListen, q, 90*second); got.Disp != x.disp {
			t.Errorf("Precision %v: %+v, want %v", x.precision, got, x.disp)
		}
	}
}
