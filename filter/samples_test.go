package filter_test

import (
	"math"
	"slices"
	"testing"

	"foliot/api"
	"foliot/filter"
)

func wantSamples(t *testing.T, f *filter.Filter, want ...api.Sample) {
	t.Helper()
	if got := f.Samples(); !slices.Equal(got, want) {
		t.Errorf("Samples are %v, want %v", got, want)
	}
}

// wantAts says of which times the samples are, the newest first.
func wantAts(t *testing.T, f *filter.Filter, want ...api.Stamp) {
	t.Helper()
	var got []api.Stamp
	for _, s := range f.Samples() {
		got = append(got, s.At)
	}
	if !slices.Equal(got, want) {
		t.Errorf("Samples are of %v, want %v", got, want)
	}
}

// P9.1: none, some, all, one more, and twice round and one more.
func TestSamplesCounts(t *testing.T) {
	for _, x := range []struct {
		count int
		want  []api.Stamp
	}{
		{0, nil},
		{1, []api.Stamp{1}},
		{2, []api.Stamp{2, 1}},
		{3, []api.Stamp{3, 2, 1}},
		{7, []api.Stamp{7, 6, 5, 4, 3, 2, 1}},
		{8, []api.Stamp{8, 7, 6, 5, 4, 3, 2, 1}},
		{9, []api.Stamp{9, 8, 7, 6, 5, 4, 3, 2}},
		{10, []api.Stamp{10, 9, 8, 7, 6, 5, 4, 3}},
		{15, []api.Stamp{15, 14, 13, 12, 11, 10, 9, 8}},
		{16, []api.Stamp{16, 15, 14, 13, 12, 11, 10, 9}},
		{17, []api.Stamp{17, 16, 15, 14, 13, 12, 11, 10}},
		{1000, []api.Stamp{1000, 999, 998, 997, 996, 995, 994, 993}},
	} {
		wantAts(t, pairOf(t, rising(x.count)...).f, x.want...)
	}
}

// P9.1: the newest is the one that was added last, whatever its time; the same one counts each time.
func TestSamplesByAdding(t *testing.T) {
	p := pairOf(t, sampleAt(9), sampleAt(3), sampleAt(last), sampleAt(3), sampleAt(0))
	wantAts(t, p.f, 0, 3, last, 3, 9)
	p.add(sampleAt(7), sampleAt(7), sampleAt(7))
	wantAts(t, p.f, 7, 7, 7, 0, 3, last, 3, 9)
	p.add(sampleAt(7))
	wantAts(t, p.f, 7, 7, 7, 7, 0, 3, last, 3)
	p.add(sampleAt(1))
	wantAts(t, p.f, 1, 7, 7, 7, 7, 0, 3, last)
}

// P9.1: every field is told as it was, one that is beyond what a span saturates at too.
func TestSamplesWhole(t *testing.T) {
	p := pairOf(t)
	var want []api.Sample
	for _, s := range []api.Sample{
		{},
		{Offset: 1, Delay: 2, Disp: 3, At: 4},
		{Offset: -1, Delay: -2, Disp: -3, At: last},
		{Offset: math.MaxInt64, Delay: math.MinInt64, Disp: math.MaxInt64, At: 1 << 63},
		{Offset: math.MinInt64, Delay: math.MaxInt64, Disp: math.MinInt64, At: 1},
		{Offset: api.MaxSpan + 1, Delay: -api.MaxSpan - 1, Disp: most + 1},
	} {
		p.add(s)
		want = append([]api.Sample{s}, want...)
		wantSamples(t, p.f, want...)
		// A Best neither takes one away nor lets one grow.
		p.best(last)
		wantSamples(t, p.f, want...)
	}
}

// P9.1: behind Clear of any count it is as in the beginning, for any count that follows.
func TestClear(t *testing.T) {
	for _, ahead := range []int{0, 1, 2, 7, 8, 9, 17} {
		for _, behind := range []int{0, 1, 2, 7, 8, 9, 17} {
			p := pairOf(t, rising(ahead)...)
			p.clear()
			wantSamples(t, p.f)
			p.want(5, api.Best{Disp: most})
			p.add(rising(behind)...)
			if fresh := pairOf(t, rising(behind)...); !slices.Equal(p.f.Samples(), fresh.f.Samples()) || p.best(5) != fresh.best(5) {
				t.Errorf("%v samples, cleared, and %v are not as %v alone", ahead, behind, behind)
			}
			p.clear()
			p.clear()
			wantSamples(t, p.f)
			p.want(0, api.Best{Disp: most})
		}
	}
}

// P9.1: behind a Clear the samples ahead of it do not count, though they had less delay.
func TestClearForgets(t *testing.T) {
	p := pairOf(t, api.Sample{Offset: 1 << 40, Delay: -1, At: 900})
	p.best(900)
	p.clear()
	p.add(api.Sample{Offset: 7, Delay: 5, At: 3})
	p.want(3, api.Best{Offset: 7, Delay: 5, Disp: wanting(1), Jitter: 4096, At: 3, New: true})
}

// R3: what Samples tells is the caller's: a change of it, of what lies behind its length, or an Add, is seen only where it was made.
func TestSamplesAreNew(t *testing.T) {
	for _, count := range []int{0, 1, 3, 7, 8, 9, 17} {
		p := pairOf(t, rising(count)...)
		mine, other := p.f.Samples(), p.f.Samples()
		kept := slices.Clone(mine)
		clear(mine[:cap(mine)])
		mine = append(mine, sampleAt(77))
		if !slices.Equal(other, kept) {
			t.Errorf("of %v samples two answers are one", count)
		}
		p.checkSamples()
		p.best(100)
		p.add(sampleAt(500))
		p.clear()
		if !slices.Equal(other, kept) || mine[len(mine)-1].At != 77 {
			t.Errorf("of %v samples an answer has changed", count)
		}
	}
}

// R3: what is handed in stays as it is, and what becomes of it is not seen.
func TestAddKeepsNothing(t *testing.T) {
	l := rising(17)
	before := slices.Clone(l)
	p := pairOf(t)
	for i := range l {
		p.f.Add(l[i])
		p.f.Best(l[i].At)
	}
	if !slices.Equal(l, before) {
		t.Errorf("%v became %v", before, l)
	}
	clear(l)
	slices.Reverse(before)
	wantSamples(t, p.f, before[:8]...)
	p.m.added = rising(17)
	p.checkSamples()
}

// R3: two filters have nothing in common.
func TestTwoFilters(t *testing.T) {
	a, b := pairOf(t), pairOf(t)
	a.add(api.Sample{Offset: 1, Delay: 1, At: 100})
	wantSamples(t, b.f)
	b.want(0, api.Best{Disp: most})
	a.wantNew(100, true)
	b.add(api.Sample{Offset: 9, Delay: 9, At: 50})
	b.want(50, api.Best{Offset: 9, Delay: 9, Disp: wanting(1), Jitter: 4096, At: 50, New: true})
	a.want(100, api.Best{Offset: 1, Delay: 1, Disp: wanting(1), Jitter: 4096, At: 100})
	a.clear()
	wantAts(t, b.f, 50)
	b.wantNew(50, false)
	a.add(sampleAt(50))
	a.wantNew(50, true)
}
