package filter_test

import (
	"math/big"
	"math/rand/v2"
	"slices"
	"testing"

	"foliot/api"
	"foliot/filter"
)

const (
	second = 1 << 32
	milli  = second >> 10
	most   = 16 * second
	last   = 1<<64 - 1 // the end of an era
)

// model says the promises by all samples that ever came, and by numbers without end.
type model struct {
	added []api.Sample
	told  []api.Stamp // the times of all that were New
}

func (m *model) samples() []api.Sample {
	l := slices.Clone(m.added[max(len(m.added)-8, 0):])
	slices.Reverse(l)
	return l
}

// sinceOf says P2.1.
func sinceOf(a, b api.Stamp) *big.Int {
	era := new(big.Int).Lsh(big.NewInt(1), 64)
	d := new(big.Int).SetUint64(uint64(a))
	d.Sub(d, new(big.Int).SetUint64(uint64(b)))
	d.Mod(d, era)
	if d.Bit(63) == 1 {
		d.Sub(d, era)
	}
	return within(d, int64(-api.MaxSpan), int64(api.MaxSpan))
}

func within(x *big.Int, least, greatest int64) *big.Int {
	if x.Cmp(big.NewInt(least)) < 0 {
		return big.NewInt(least)
	}
	if x.Cmp(big.NewInt(greatest)) > 0 {
		return big.NewInt(greatest)
	}
	return x
}

// dispOf says P9.2.
func dispOf(s api.Sample, now api.Stamp) int64 {
	sum := big.NewInt(0)
	if d := sinceOf(now, s.At); d.Sign() > 0 {
		sum.Mul(d, big.NewInt(4222124650))
		sum.Div(sum, big.NewInt(1<<48))
	}
	sum.Add(sum, big.NewInt(int64(s.Disp)))
	return within(sum, 0, most).Int64()
}

// placesOf puts each sample behind all that have less delay, or the same and are newer; l has the newest first.
func placesOf(l []api.Sample) []api.Sample {
	sorted := make([]api.Sample, len(l))
	for i, s := range l {
		ahead := 0
		for j, other := range l {
			if other.Delay < s.Delay || other.Delay == s.Delay && j < i {
				ahead++
			}
		}
		sorted[ahead] = s
	}
	return sorted
}

func jitterOf(sorted []api.Sample) api.Span {
	if len(sorted) < 2 {
		return 4096
	}
	sum := new(big.Int)
	for _, s := range sorted[1:] {
		d := big.NewInt(int64(s.Offset))
		d.Sub(d, big.NewInt(int64(sorted[0].Offset)))
		d = within(d, int64(-api.MaxSpan), int64(api.MaxSpan))
		sum.Add(sum, new(big.Int).Mul(d, d))
	}
	sum.Div(sum, big.NewInt(int64(len(sorted)-1)))
	return api.Span(max(sum.Sqrt(sum).Int64(), 4096))
}

func (m *model) best(now api.Stamp) api.Best {
	sorted := placesOf(m.samples())
	if len(sorted) == 0 {
		return api.Best{Disp: most}
	}
	b := api.Best{Offset: sorted[0].Offset, Delay: sorted[0].Delay, At: sorted[0].At, Jitter: jitterOf(sorted)}
	for i := range 8 {
		part := int64(most)
		if i < len(sorted) {
			part = dispOf(sorted[i], now)
		}
		b.Disp += api.Span(part / (2 << i))
	}
	if n := len(m.told); n == 0 || sinceOf(b.At, m.told[n-1]).Sign() > 0 {
		b.New = true
		m.told = append(m.told, b.At)
	}
	return b
}

// pair is a filter beside what the promises say of it; each answer is held against them.
type pair struct {
	t *testing.T
	f *filter.Filter
	m model
}

// pairOf has these samples, the oldest first.
func pairOf(t *testing.T, l ...api.Sample) *pair {
	t.Helper()
	p := &pair{t: t, f: filter.New()}
	p.add(l...)
	return p
}

func (p *pair) add(l ...api.Sample) {
	p.t.Helper()
	for _, s := range l {
		p.f.Add(s)
		p.m.added = append(p.m.added, s)
	}
	p.checkSamples()
}

func (p *pair) checkSamples() {
	p.t.Helper()
	if got, want := p.f.Samples(), p.m.samples(); !slices.Equal(got, want) {
		p.t.Fatalf("Samples are %v, want %v", got, want)
	}
}

func (p *pair) clear() {
	p.t.Helper()
	p.f.Clear()
	p.m = model{}
	p.checkSamples()
}

func (p *pair) best(now api.Stamp) api.Best {
	p.t.Helper()
	got := p.f.Best(now)
	if want := p.m.best(now); got != want {
		p.t.Fatalf("of %v, the newest first, Best(%v) is %+v, want %+v", p.m.samples(), now, got, want)
	}
	p.checkSamples()
	return got
}

// want says the answer once more, written out.
func (p *pair) want(now api.Stamp, want api.Best) {
	p.t.Helper()
	if got := p.best(now); got != want {
		p.t.Errorf("Best(%v) is %+v, want %+v", now, got, want)
	}
}

func (p *pair) wantDisp(now api.Stamp, want api.Span) {
	p.t.Helper()
	if got := p.best(now).Disp; got != want {
		p.t.Errorf("Disp at %v is %v, want %v", now, got, want)
	}
}

func (p *pair) wantJitter(want api.Span) {
	p.t.Helper()
	if got := p.best(0).Jitter; got != want {
		p.t.Errorf("Jitter is %v, want %v", got, want)
	}
}

func (p *pair) wantNew(at api.Stamp, want bool) {
	p.t.Helper()
	if got := p.best(0); got.New != want || got.At != at {
		p.t.Errorf("At is %v, New %v, want %v, %v", got.At, got.New, at, want)
	}
}

// wanting is what the places behind the first ones add to Disp, if only these have a sample.
func wanting(taken int) api.Span { return most>>taken - second/16 }

func sampleAt(at api.Stamp) api.Sample { return api.Sample{At: at} }

// rising have the Ats 1, 2 and so on, and these Offsets too.
func rising(count int) []api.Sample {
	var l []api.Sample
	for i := range count {
		l = append(l, api.Sample{Offset: api.Span(i + 1), Delay: 5, At: api.Stamp(i + 1)})
	}
	return l
}

func drawer(seed uint64) *rand.Rand { return rand.New(rand.NewPCG(9, seed)) }

// drawSpan is of any length, often one of a few.
func drawSpan(r *rand.Rand) api.Span {
	some := [...]api.Span{0, 1, -1, 4095, 4096, 4097, second, most - 1, most, most + 1, api.MaxSpan, -api.MaxSpan, -1 << 63, 1<<63 - 1}
	if r.IntN(3) == 0 {
		return some[r.IntN(len(some))]
	}
	return api.Span(int64(r.Uint64()) >> r.IntN(64))
}

// drawStamp is any number of bits behind start, or ahead of it.
func drawStamp(r *rand.Rand, start api.Stamp) api.Stamp {
	return start + api.Stamp(int64(r.Uint64())>>r.IntN(64))
}

func drawSample(r *rand.Rand, start api.Stamp) api.Sample {
	s := api.Sample{Offset: drawSpan(r), Delay: drawSpan(r), Disp: drawSpan(r), At: drawStamp(r, start)}
	// So that delays are often the same.
	if r.IntN(2) == 0 {
		s.Delay = api.Span(r.IntN(4))
	}
	// And dispersions often neither 0 nor the greatest.
	if r.IntN(2) == 0 {
		s.Disp = api.Span(r.Int64N(most))
	}
	return s
}
