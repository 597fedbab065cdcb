package filter_test

import (
	"math"
	"testing"

	"foliot/api"
)

// full is the least span in which a dispersion grows by the greatest one that there is.
const full = (most<<48 + 4222124650 - 1) / 4222124650

// P9.2: growth as it is written out, of one sample, halved, and of the seven that are wanting.
func TestDispGrows(t *testing.T) {
	for _, x := range []struct{ disp, age, want api.Span }{
		{0, 0, 0},
		{0, 1, 0},
		{0, 66666, 0},
		{0, 66667, 1},
		{0, second, 64424},
		{0, 2 * second, 128849},
		{0, 1000 * second, 64424509},
		{0, 1 << 20 * second, 67553994400},
		{5, second, 64429},
		{second, second, second + 64424},
		{most, 0, most},
		{most, second, most},
		{most - 64424, second, most},
		{most - 64425, second, most - 1},
		{most - 64423, second, most},
		{0, full - 1, most - 1},
		{0, full, most},
		{0, full + 1, most},
		{0, 2 * full, most},
		{0, api.MaxSpan, most},
	} {
		for _, at := range []api.Stamp{0, 1, second, 1 << 63, last, last - 5*second} {
			p := pairOf(t, api.Sample{Disp: x.disp, At: at})
			p.wantDisp(at+api.Stamp(x.age), x.want>>1+wanting(1))
		}
	}
}

// P9.2: a time that lies ahead of a sample's makes its dispersion no less, and no more.
func TestDispAheadOfSample(t *testing.T) {
	for _, at := range []api.Stamp{0, 1, second, 1 << 63, last} {
		p := pairOf(t, api.Sample{Disp: 1000, At: at})
		p.wantDisp(at, 500+wanting(1))
		for _, ahead := range []api.Stamp{1, 66667, second, 1000 * second, full, 1 << 62, 1<<62 + 1, 1<<63 - 1} {
			p.wantDisp(at-ahead, 500+wanting(1))
		}
	}
}

// P9.2: half an era away the nearer way round turns: just ahead of that time it is the longest age, which is cut; from it on there is none.
func TestDispHalfAnEraAway(t *testing.T) {
	const longest = 4222124650 << 14 // Drift's, of MaxSpan
	for _, at := range []api.Stamp{0, 1, second, 1 << 63, last} {
		p := pairOf(t, api.Sample{Disp: 1000, At: at})
		p.wantDisp(at+1<<62, most/2+wanting(1))
		p.wantDisp(at+1<<63-1, most/2+wanting(1))
		p.wantDisp(at+1<<63, 500+wanting(1))
		p.wantDisp(at+1<<63+1, 500+wanting(1))
		// Below 0 by nearly all of it: what is left shows that the age is cut at MaxSpan.
		p = pairOf(t, api.Sample{Disp: 1000 - longest, At: at})
		p.wantDisp(at+1<<62-second, wanting(1))
		p.wantDisp(at+1<<62-66667, 499+wanting(1))
		p.wantDisp(at+1<<62, 500+wanting(1))
		p.wantDisp(at+1<<62+1<<40, 500+wanting(1))
		p.wantDisp(at+1<<63-1, 500+wanting(1))
		p.wantDisp(at+1<<63, wanting(1))
	}
}

// P9.2: what is below 0 counts as 0, what is beyond MAX as that; growth comes first.
func TestDispBounds(t *testing.T) {
	for _, x := range []struct{ disp, age, want api.Span }{
		{-1, 0, 0},
		{-2, 0, 0},
		{-second, 0, 0},
		{-api.MaxSpan, 0, 0},
		{math.MinInt64, 0, 0},
		{math.MinInt64, second, 0},
		{math.MinInt64, api.MaxSpan, 0},
		{-100, second, 64324},
		{-64424, second, 0},
		{-64422, second, 2},
		{-64426, second, 0},
		{1, 0, 1},
		{2, 0, 2},
		{most - 1, 0, most - 1},
		{most, 0, most},
		{most + 1, 0, most},
		{most + 2, 0, most},
		{1 << 40, second, most},
		{api.MaxSpan, 0, most},
		{api.MaxSpan, api.MaxSpan, most},
		{math.MaxInt64, 0, most},
		{math.MaxInt64, second, most},
		{math.MaxInt64, api.MaxSpan, most},
	} {
		p := pairOf(t, api.Sample{Disp: x.disp, At: 7})
		p.wantDisp(7+api.Stamp(x.age), x.want>>1+wanting(1))
		// The same in all places.
		for range 7 {
			p.add(api.Sample{Disp: x.disp, At: 7})
		}
		sum := api.Span(0)
		for k := range 8 {
			sum += x.want >> (k + 1)
		}
		p.wantDisp(7+api.Stamp(x.age), sum)
	}
}

// P9.3: the dispersions stand in the places of their delays, and MAX in those behind them.
func TestDispPlaces(t *testing.T) {
	// 4 s halved, 2 s quartered, an eighth of 8 s, and 2 s but for a sixteenth.
	p := pairOf(t, api.Sample{Delay: 3, Disp: 8 * second}, api.Sample{Delay: 1, Disp: 4 * second}, api.Sample{Delay: 2, Disp: 2 * second})
	p.wantDisp(0, 2*second+second/2+second+wanting(3))
	// Of one delay the newest has the first place.
	p = pairOf(t, api.Sample{Delay: 1, Disp: 8 * second}, api.Sample{Delay: 1, Disp: 4 * second}, api.Sample{Delay: 1, Disp: 2 * second})
	p.wantDisp(0, second+second+second+wanting(3))
	// Each place by itself: only that sample has any dispersion.
	for place := range 8 {
		for count := place + 1; count <= 8; count++ {
			p := pairOf(t)
			for i := range count {
				s := api.Sample{Delay: api.Span(i)}
				if i == place {
					s.Disp = 256
				}
				p.add(s)
			}
			p.wantDisp(0, 128>>place+wanting(count))
		}
	}
}

// P9.3: samples without any dispersion: what is wanting alone counts, till there are eight.
func TestDispWanting(t *testing.T) {
	p := pairOf(t)
	p.wantDisp(0, most)
	for count := 1; count <= 17; count++ {
		p.add(api.Sample{})
		p.wantDisp(0, wanting(min(count, 8)))
	}
	if wanting(8) != 0 || wanting(1) != 34091302912 {
		t.Errorf("wanting are %v, %v", wanting(8), wanting(1))
	}
}

// P9.3: each is divided by itself, down.
func TestDispDividesEach(t *testing.T) {
	for _, x := range []struct{ disp, want api.Span }{
		{1, 0}, {2, 1}, {3, 1}, {4, 3}, {5, 3}, {7, 4}, {255, 247}, {256, 255}, {most, most - second/16}, {most - 1, most - second/16 - 8},
	} {
		p := pairOf(t)
		for range 8 {
			p.add(api.Sample{Disp: x.disp})
		}
		p.wantDisp(0, x.want)
	}
}

// P9.2, P9.3: each sample is as old as its own At says.
func TestDispAges(t *testing.T) {
	// 2 s, 1 s and 0 s old, and one that is not yet.
	p := pairOf(t,
		api.Sample{Delay: 1, At: 1 * second},
		api.Sample{Delay: 2, At: 2 * second},
		api.Sample{Delay: 3, At: 3 * second},
		api.Sample{Delay: 4, At: 4 * second})
	p.wantDisp(3*second, 128849/2+64424/4+wanting(4))
	p.wantDisp(4*second, 193273/2+128849/4+64424/8+wanting(4))
	p.wantDisp(0, wanting(4))
}

// P9.2: it grows to MAX in all places, and no further.
func TestDispGrowsToMost(t *testing.T) {
	p := pairOf(t)
	for range 8 {
		p.add(api.Sample{At: 5})
	}
	p.wantDisp(5+full-1, most-second/16-8)
	for _, age := range []api.Stamp{full, full + 1, 1 << 60, 1 << 62, 1<<63 - 1} {
		p.wantDisp(5+age, most-second/16)
	}
}

// P9.4: with time alone Disp never falls, as far as the nearer way round goes; nothing else but New changes.
func TestDispNeverFalls(t *testing.T) {
	r := drawer(1)
	for range 500 {
		start := api.Stamp(r.Uint64())
		p := pairOf(t)
		for range r.IntN(12) {
			s := drawSample(r, start)
			s.At = start + api.Stamp(r.Int64N(1000*second))
			p.add(s)
		}
		before, now := p.best(start), start
		before.New = false
		for range 100 {
			now += api.Stamp(r.Uint64N(1 << (20 + r.IntN(36))))
			b := p.best(now)
			if b.Disp < before.Disp || b.Disp > most || b.New {
				t.Fatalf("behind %+v comes %+v", before, b)
			}
			before.Disp = b.Disp
			if b != before {
				t.Fatalf("behind %+v comes %+v", before, b)
			}
		}
	}
}
