package filter_test

import (
	"math"
	"testing"

	"foliot/api"
	"foliot/filter"
)

// P9.3: the chapter's examples.
func TestBestExamples(t *testing.T) {
	p := pairOf(t)
	p.want(0, api.Best{Disp: most})
	p.add(api.Sample{Offset: milli, Delay: 2 * milli})
	p.want(0, api.Best{Offset: milli, Delay: 2 * milli, Disp: 34091302912, Jitter: 4096, New: true})
	p.want(0, api.Best{Offset: milli, Delay: 2 * milli, Disp: 34091302912, Jitter: 4096})
	p.add(api.Sample{Offset: 2 * milli, Delay: milli, At: second})
	// The other one is a second old, in the second place.
	p.want(second, api.Best{Offset: 2 * milli, Delay: milli, Disp: 64424/4 + 4*second - second/16, Jitter: milli, At: second, New: true})
	pairOf(t, api.Sample{}).want(1<<20*second, api.Best{Disp: 67553994400/2 + 8*second - second/16, Jitter: 4096, New: true})
}

// P9.3: of none nothing is told, at any time and as often as it is asked; and no time was told.
func TestBestOfNone(t *testing.T) {
	p := pairOf(t)
	for _, now := range []api.Stamp{0, 1, second, 1 << 63, last} {
		p.want(now, api.Best{Disp: most})
	}
	p.add(sampleAt(0))
	p.wantNew(0, true)
}

// P9.3: who has the least delay is told, wherever it stands among the others.
func TestBestLeastDelay(t *testing.T) {
	for count := 1; count <= 8; count++ {
		for which := range count {
			for _, delay := range []api.Span{-5, 0, math.MinInt64, 99} {
				p := pairOf(t)
				for i := range count {
					s := api.Sample{Offset: 7, Delay: 100 + api.Span(i*37%8), At: api.Stamp(i)}
					if i == which {
						s.Delay, s.Offset = delay, 8
					}
					p.add(s)
				}
				p.want(0, api.Best{Offset: 8, Delay: delay, Disp: wanting(count), Jitter: 4096, At: api.Stamp(which), New: true})
			}
		}
	}
}

// P9.3: a sample that is gone round is told no more.
func TestBestGoes(t *testing.T) {
	p := pairOf(t, api.Sample{Offset: 1, Delay: 1, At: 1})
	for i := range 7 {
		p.add(api.Sample{Offset: 9, Delay: 9, At: api.Stamp(2 + i)})
		if b := p.best(0); b.At != 1 || b.Offset != 1 || b.Delay != 1 {
			t.Errorf("of %v samples the best one is %+v", i+2, b)
		}
	}
	p.add(api.Sample{Offset: 9, Delay: 9, At: 9})
	p.want(9, api.Best{Offset: 9, Delay: 9, Disp: 0, Jitter: 4096, At: 9, New: true})
}

// P9.3: of several of one delay the newest is told: the one that was added last, not the one of the latest time.
func TestBestOfOneDelay(t *testing.T) {
	p := pairOf(t)
	for i := range 17 {
		p.add(api.Sample{Offset: api.Span(i), Delay: 3, At: api.Stamp(i)})
		if b := p.best(0); b.At != api.Stamp(i) || b.Offset != api.Span(i) {
			t.Errorf("the newest of %v is not told: %+v", i+1, b)
		}
	}
	p = pairOf(t)
	for i := range 17 {
		p.add(api.Sample{Offset: api.Span(i), Delay: 3, At: api.Stamp(100 - i)})
		if b := p.best(0); b.At != api.Stamp(100-i) || b.Offset != api.Span(i) {
			t.Errorf("the newest of %v is not told: %+v", i+1, b)
		}
	}
	// Of some of them.
	p = pairOf(t, api.Sample{Offset: 1, Delay: 3}, api.Sample{Offset: 2, Delay: 3}, api.Sample{Offset: 3, Delay: 4})
	if b := p.best(0); b.Offset != 2 {
		t.Errorf("the newest of the least delay is not told: %+v", b)
	}
	p.add(api.Sample{Offset: 4, Delay: 3}, api.Sample{Offset: 5, Delay: 5})
	if b := p.best(0); b.Offset != 4 {
		t.Errorf("the newest of the least delay is not told: %+v", b)
	}
}

// P9.3: every order of up to eight delays out of three, the dispersions all different.
func TestBestOrders(t *testing.T) {
	for count := 1; count <= 8; count++ {
		choices := 1
		for range count {
			choices *= 3
		}
		for choice := range choices {
			p := pairOf(t)
			rest := choice
			for i := range count {
				p.add(api.Sample{Offset: api.Span(i) << 20, Delay: api.Span(rest % 3), Disp: second + api.Span(i*i)<<24, At: api.Stamp(i)})
				rest /= 3
			}
			p.best(second)
		}
	}
}

// P9.3: offsets and delays are told as they are, beyond what a span saturates at too.
func TestBestTellsTheSample(t *testing.T) {
	spans := []api.Span{0, 1, -1, second, -second, api.MaxSpan, -api.MaxSpan, api.MaxSpan + 1, math.MaxInt64, math.MinInt64}
	for _, offset := range spans {
		for _, delay := range spans {
			for _, at := range []api.Stamp{0, 1, 1 << 63, last} {
				s := api.Sample{Offset: offset, Delay: delay, At: at}
				pairOf(t, s).want(at, api.Best{Offset: offset, Delay: delay, Disp: wanting(1), Jitter: 4096, At: at, New: true})
			}
		}
	}
}

// P9.3: delays are held against each other as whole numbers, the least and the greatest one too.
func TestBestDelays(t *testing.T) {
	rise := []api.Span{math.MinInt64, math.MinInt64 + 1, -api.MaxSpan - 1, -api.MaxSpan, -second, -1, 0, 1, second, api.MaxSpan, api.MaxSpan + 1, math.MaxInt64 - 1, math.MaxInt64}
	for i, less := range rise {
		for _, more := range rise[i+1:] {
			for _, l := range [][]api.Sample{
				{{Offset: 1, Delay: less}, {Offset: 2, Delay: more}},
				{{Offset: 2, Delay: more}, {Offset: 1, Delay: less}},
			} {
				if b := pairOf(t, l...).best(0); b.Offset != 1 || b.Delay != less {
					t.Errorf("of the delays %v and %v %v is told", less, more, b.Delay)
				}
			}
		}
	}
}

// P9.3: the jitter is at least 4096; the differences count from the one that is told.
func TestJitter(t *testing.T) {
	// offsets are those of the others, the first one's is 1000.
	for _, x := range []struct {
		offsets []api.Span
		want    api.Span
	}{
		{nil, 4096},
		{[]api.Span{1000}, 4096},
		{[]api.Span{0}, 4096},
		{[]api.Span{1000 + 4095}, 4096},
		{[]api.Span{1000 + 4096}, 4096},
		{[]api.Span{1000 + 4097}, 4097},
		{[]api.Span{1000 - 4095}, 4096},
		{[]api.Span{1000 - 4096}, 4096},
		{[]api.Span{1000 - 4097}, 4097},
		{[]api.Span{1000 + 30000, 1000 + 40000}, 35355},
		{[]api.Span{1000 - 30000, 1000 + 40000}, 35355},
		{[]api.Span{1000, 1000 + 8192, 1000, 1000}, 4096},
		{[]api.Span{1000, 1000 + 8194, 1000, 1000}, 4097},
		{[]api.Span{1000, 1000 + 8193, 1000, 1000}, 4096},
		{[]api.Span{1000, 1000, 1000, 1000, 1000, 1000, 1000}, 4096},
		{[]api.Span{1000 + second, 1000 + second, 1000 - second, 1000 - second, 1000 + second, 1000 - second, 1000 + second}, second},
		{[]api.Span{1000 + 70000, 1000, 1000, 1000, 1000, 1000, 1000}, 26457},
	} {
		p := pairOf(t, api.Sample{Offset: 1000})
		for i, o := range x.offsets {
			p.add(api.Sample{Offset: o, Delay: 1 + api.Span(i)})
		}
		p.wantJitter(x.want)
		// The others' order makes no difference, nor when the first one came.
		p.clear()
		for i, o := range x.offsets {
			p.add(api.Sample{Offset: o, Delay: 9 - api.Span(i)})
		}
		p.add(api.Sample{Offset: 1000})
		p.wantJitter(x.want)
	}
}

// P9.3: differences saturate, either way, ahead of their squares.
func TestJitterSaturates(t *testing.T) {
	for _, x := range []struct{ first, other, want api.Span }{
		{0, api.MaxSpan, api.MaxSpan},
		{0, api.MaxSpan - 1, api.MaxSpan - 1},
		{0, api.MaxSpan + 1, api.MaxSpan},
		{0, math.MaxInt64, api.MaxSpan},
		{0, -api.MaxSpan, api.MaxSpan},
		{0, math.MinInt64, api.MaxSpan},
		{1, -api.MaxSpan, api.MaxSpan},
		{-1, -api.MaxSpan, api.MaxSpan - 1},
		{math.MinInt64, math.MaxInt64, api.MaxSpan},
		{math.MaxInt64, math.MinInt64, api.MaxSpan},
		{math.MinInt64, 0, api.MaxSpan},
		{math.MinInt64, math.MinInt64, 4096},
		{math.MaxInt64, math.MaxInt64, 4096},
		{math.MaxInt64, math.MaxInt64 - 5000, 5000},
		{math.MinInt64, math.MinInt64 + 5000, 5000},
		{api.MaxSpan, -api.MaxSpan, api.MaxSpan},
		{api.MaxSpan, -1, api.MaxSpan},
		{api.MaxSpan, 1, api.MaxSpan - 1},
	} {
		for others := 1; others <= 7; others++ {
			p := pairOf(t, api.Sample{Offset: x.first})
			for range others {
				p.add(api.Sample{Offset: x.other, Delay: 1})
			}
			p.wantJitter(x.want)
		}
	}
}

// P9.3: a sample that is gone takes no part in the jitter any more.
func TestJitterGoes(t *testing.T) {
	p := pairOf(t, api.Sample{Offset: 1 << 40, Delay: 9})
	for range 7 {
		p.add(api.Sample{Offset: 5})
	}
	// A seventh of the square of 2^40 - 5.
	p.wantJitter(415576332957)
	p.add(api.Sample{Offset: 5})
	p.wantJitter(4096)
}

// P9.3: the first time that is told is New, whatever it is; a second Best is not.
func TestNewFirst(t *testing.T) {
	for _, at := range []api.Stamp{0, 1, second, 1<<63 - 1, 1 << 63, 1<<63 + 1, last} {
		p := pairOf(t, sampleAt(at))
		p.wantNew(at, true)
		p.wantNew(at, false)
		p.wantNew(at, false)
		// At another time it is not New either.
		if p.best(at+second).New || p.best(at+1<<63).New || p.best(last).New {
			t.Errorf("%v is New twice", at)
		}
		p.clear()
		p.add(sampleAt(at))
		p.wantNew(at, true)
		p.wantNew(at, false)
	}
}

// P9.3: behind an older sample, one of the same time and a later one, each of them the best.
func TestNewBehindAdd(t *testing.T) {
	for _, start := range []api.Stamp{0, 5, second, 1 << 63, last, last - 1} {
		p := pairOf(t, api.Sample{Delay: 100, At: start})
		p.wantNew(start, true)
		p.add(api.Sample{Delay: 99, At: start - 10})
		p.wantNew(start-10, false)
		// What was not New told nothing that counts: this one is later than the last, but not than the first.
		p.add(api.Sample{Delay: 98, At: start - 1})
		p.wantNew(start-1, false)
		p.add(api.Sample{Delay: 97, At: start})
		p.wantNew(start, false)
		p.add(api.Sample{Delay: 96, At: start + 1})
		p.wantNew(start+1, true)
		p.wantNew(start+1, false)
		p.add(api.Sample{Delay: 95, At: start})
		p.wantNew(start, false)
		p.add(api.Sample{Delay: 94, At: start + 1})
		p.wantNew(start+1, false)
		p.add(api.Sample{Delay: 93, At: start + second})
		p.wantNew(start+second, true)
	}
}

// P9.3: a later sample that is not the best one makes nothing New, till it is told.
func TestNewOnlyOfTheBest(t *testing.T) {
	p := pairOf(t, api.Sample{Delay: 1, At: 10})
	p.wantNew(10, true)
	for i := range 7 {
		p.add(api.Sample{Delay: 5, At: api.Stamp(20 + i)})
		p.wantNew(10, false)
	}
	p.add(api.Sample{Delay: 6, At: 40})
	p.wantNew(26, true)
	p.wantNew(26, false)
}

// P9.3: a sample that no Best told was not told; nor does the order of telling hang on now.
func TestNewOfWhatWasTold(t *testing.T) {
	p := pairOf(t, api.Sample{Delay: 5, At: 100}, api.Sample{Delay: 4, At: 50})
	p.wantNew(50, true)
	p.add(api.Sample{Delay: 3, At: 70})
	if b := p.best(last); !b.New || b.At != 70 {
		t.Errorf("%+v is not New", b)
	}
	p.add(api.Sample{Delay: 2, At: 60})
	if b := p.best(1 << 62); b.New || b.At != 60 {
		t.Errorf("%+v is New", b)
	}
}

// P9.3: later is by the nearer way round an era.
func TestNewRoundTheEra(t *testing.T) {
	for _, x := range []struct {
		first, then api.Stamp
		want        bool
	}{
		{last, 0, true},
		{0, last, false},
		{last - second, second, true},
		{second, last - second, false},
		{0, 1<<62 - 1, true},
		{0, 1 << 62, true},
		{0, 1<<63 - 1, true},
		{0, 1 << 63, false},
		{0, 1<<63 + 1, false},
		{1 << 63, last, true},
		{1 << 63, 0, false},
		{1<<63 + 1, 0, true},
		{5, 1<<63 + 4, true},
		{5, 1<<63 + 5, false},
	} {
		p := pairOf(t, api.Sample{Delay: 1, At: x.first})
		p.wantNew(x.first, true)
		p.add(api.Sample{Delay: 0, At: x.then})
		p.wantNew(x.then, x.want)
		p.wantNew(x.then, false)
	}
}

// P9.1, P9.3: behind Clear no time was told yet: an older one is New too.
func TestNewBehindClear(t *testing.T) {
	p := pairOf(t, sampleAt(100))
	p.wantNew(100, true)
	p.clear()
	p.want(100, api.Best{Disp: most})
	p.add(sampleAt(50))
	p.wantNew(50, true)
	p.wantNew(50, false)
	p.add(sampleAt(70))
	p.wantNew(70, true)
	// A Clear without any Best ahead of it, and one of none.
	p.clear()
	p.add(sampleAt(9))
	p.clear()
	p.clear()
	p.add(sampleAt(8))
	p.wantNew(8, true)
}

// P9.4: who is told has the least delay; Disp lies from 0 to MAX, Jitter is at least 4096. Two filters, drawn samples, times and calls.
func TestFiltersDrawn(t *testing.T) {
	r := drawer(2)
	for range 300 {
		pairs := [2]*pair{pairOf(t), pairOf(t)}
		start := [...]api.Stamp{0, last, 1 << 63, api.Stamp(r.Uint64())}[r.IntN(4)]
		for range 150 {
			p := pairs[r.IntN(2)]
			if r.IntN(25) == 0 {
				p.clear()
			}
			if r.IntN(3) > 0 {
				p.add(drawSample(r, start))
			}
			b := p.best(drawStamp(r, start))
			for _, s := range p.f.Samples() {
				if s.Delay < b.Delay {
					t.Fatalf("%v has less delay than %+v", s, b)
				}
			}
			if n := len(p.f.Samples()); b.Disp < 0 || b.Disp > most || n > 0 && b.Jitter < 4096 {
				t.Fatalf("of %v samples the best one is %+v", n, b)
			}
		}
	}
}

// P9.4: eight samples of one kind, each later than the one ahead: whatever came ahead is forgotten.
func TestEightOfOneKind(t *testing.T) {
	r := drawer(3)
	for i := range 2000 {
		start := api.Stamp(r.Uint64())
		p := pairOf(t)
		for range i % 20 {
			p.add(drawSample(r, start))
			if r.IntN(3) == 0 {
				p.best(drawStamp(r, start))
			}
		}
		s := drawSample(r, start)
		for range 8 {
			s.At += api.Stamp(1 + r.Int64N(1000*second))
			p.add(s)
		}
		b := p.best(s.At)
		if b.Offset != s.Offset || b.Delay != s.Delay || b.Jitter != 4096 || b.At != s.At {
			t.Fatalf("behind eight of %+v the best one is %+v", s, b)
		}
	}
}

// P9.4: seven of one kind are not enough, if the eighth has less delay.
func TestSevenOfOneKind(t *testing.T) {
	p := pairOf(t, api.Sample{Offset: 1 << 30, At: 1})
	for i := range 7 {
		p.add(api.Sample{Offset: 5, Delay: 7, At: api.Stamp(2 + i)})
	}
	p.want(8, api.Best{Offset: 1 << 30, Delay: 0, Disp: 0, Jitter: 1<<30 - 5, At: 1, New: true})
	p.add(api.Sample{Offset: 5, Delay: 7, At: 9})
	p.want(9, api.Best{Offset: 5, Delay: 7, Disp: 0, Jitter: 4096, At: 9, New: true})
}

// R5: the same calls have the same answers.
func TestOneAnswer(t *testing.T) {
	a, b := filter.New(), filter.New()
	r := drawer(4)
	for range 1000 {
		s, now := drawSample(r, 0), drawStamp(r, 0)
		a.Add(s)
		b.Add(s)
		// Samples changes nothing.
		a.Samples()
		if x, y := a.Best(now), b.Best(now); x != y {
			t.Fatalf("the answers are %+v and %+v", x, y)
		}
	}
}
