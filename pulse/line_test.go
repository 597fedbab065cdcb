package pulse_test

import (
	"math"
	"math/rand/v2"
	"testing"

	"foliot/api"
	"foliot/pulse"
)

// at is the reading at which an edge has that offset from the second s.
func at(s int, offset api.Span) api.Stamp {
	return api.Stamp(uint64(s)<<32 - uint64(offset))
}

func wantEdge(t *testing.T, l *pulse.Line, reading api.Stamp, want bool) {
	t.Helper()
	if got := l.Edge(reading); got != want {
		t.Errorf("Edge(%v) is %v, want %v", reading, got, want)
	}
}

func wantState(t *testing.T, l *pulse.Line, count int, phase complex128) {
	t.Helper()
	if l.Len() != count || l.Phase() != phase {
		t.Errorf("%v edges, phase %v, want %v, %v", l.Len(), l.Phase(), count, phase)
	}
}

func wantSample(t *testing.T, l *pulse.Line, now api.Stamp, fudge, offset, disp api.Span) {
	t.Helper()
	want := api.Sample{Offset: offset, Disp: disp, At: now}
	if s, is := l.Sample(now, fudge); !is || s != want {
		t.Errorf("Sample(%v, %v) is %v, %v, want %v", now, fudge, s, is, want)
	}
	if l.Len() != 0 {
		t.Errorf("%v edges behind a sample", l.Len())
	}
}

func wantNoSample(t *testing.T, l *pulse.Line) {
	t.Helper()
	count, phase := l.Len(), l.Phase()
	if s, is := l.Sample(9*second, 100); is || s != (api.Sample{}) {
		t.Errorf("Sample is %v, %v", s, is)
	}
	wantState(t, l, count, phase)
}

// lineOf has an edge of each offset, at the seconds from first on, all of them taken.
func lineOf(t *testing.T, first int, offsets ...api.Span) *pulse.Line {
	t.Helper()
	l := pulse.New()
	for i, o := range offsets {
		wantEdge(t, l, at(first+i, o), true)
	}
	return l
}

// P8.4, P8.5: the chapter's examples.
func TestLineExamples(t *testing.T) {
	l := pulse.New()
	wantEdge(t, l, 5*second+10, true)
	wantEdge(t, l, 6*second+20, true)
	wantEdge(t, l, 6*second+30, false)
	wantEdge(t, l, 7*second+30, true)
	wantEdge(t, l, 8*second+1<<24, false)
	wantState(t, l, 3, -1i)
	wantSample(t, l, 9*second, 100, 80, 4106)
	wantState(t, l, 0, -1i)
}

// P8.4: a new line has no edges, and takes any first one, that of the second 0 too.
func TestNewLine(t *testing.T) {
	wantState(t, pulse.New(), 0, 1)
	wantNoSample(t, pulse.New())
	for _, s := range edgesOfEra() {
		for _, f := range edgesOfSecond() {
			l := pulse.New()
			wantEdge(t, l, api.Stamp(s<<32+f), true)
			wantState(t, l, 1, 1i)
			wantEdge(t, l, api.Stamp(s<<32+f), false)
			wantState(t, l, 1, 1i)
		}
	}
}

// P8.4: one edge of a nearest second; half a second behind is still of it, what is further is of the next one.
func TestEdgeOfOneSecond(t *testing.T) {
	for _, x := range []struct {
		first, then api.Stamp
		want        bool
	}{
		{5 * second, 5 * second, false},
		{5 * second, 5*second + 1, false},
		{5 * second, 5*second - 1, false},
		{5*second - 1, 5*second + 1, false},
		{5*second + 1, 5*second - 1, false},
		{5 * second, 5*second + half, false},
		{5 * second, 5*second + half + 1, true},
		{5 * second, 5*second - half + 1, false},
		{5 * second, 5*second - half, true},
		{5*second + half, 5*second - half + 1, false},
		{5*second + half, 5*second + half + 1, true},
		{5*second + half + 1, 6*second + half, false},
		{5 * second, 6 * second, true},
		{6 * second, 5 * second, true},
		{5*second + 10, 6*second + 10, true},
		{5 * second, 5*second + 1<<63, true},
		// Around the end of an era.
		{last, 0, false},
		{last, half, false},
		{last, half + 1, true},
		{0, last, false},
		{0, last - half + 1, true},
		{0, last - half + 2, false},
		{last, last - second, true},
		{last - second, last, true},
	} {
		l := pulse.New()
		wantEdge(t, l, x.first, true)
		wantEdge(t, l, x.then, x.want)
		if x.want {
			wantState(t, l, 2, -1)
		} else {
			wantState(t, l, 1, 1i)
		}
	}
}

// P8.4: only the last one that was taken counts: neither one ahead of it, nor one that was refused.
func TestEdgeLastTaken(t *testing.T) {
	l := pulse.New()
	for i := range 6 {
		wantEdge(t, l, at(5+i%2, 0), true)
	}
	wantState(t, l, 6, -1)
	// The far edge of the second 7 leaves it to a near one.
	wantEdge(t, l, at(7, 1<<24), false)
	wantEdge(t, l, at(7, -1<<24), false)
	wantEdge(t, l, at(6, 0), false)
	wantEdge(t, l, at(7, 0), true)
	wantEdge(t, l, at(7, 0), false)
	wantState(t, l, 7, -1i)
}

// P8.4: the last edge is remembered behind a sample, and is none of the new edges.
func TestEdgeBehindSample(t *testing.T) {
	l := lineOf(t, 5, 10, 10, 10)
	wantSample(t, l, 9*second, 0, 10, 4096)
	wantEdge(t, l, at(7, 10), false)
	wantEdge(t, l, at(7, -500), false)
	wantState(t, l, 0, -1i)
	wantEdge(t, l, at(6, 10), true)
	wantState(t, l, 1, 1)
	wantEdge(t, l, at(7, 10), true)
	wantState(t, l, 2, 1i)
	wantNoSample(t, l)
	wantEdge(t, l, at(7, 10), false)
	wantEdge(t, l, at(8, 10), true)
	wantSample(t, l, 9*second, 0, 10, 4096)
	// A sample that was not made forgets nothing either.
	wantNoSample(t, l)
	wantEdge(t, l, at(8, 10), false)
}

// P8.4: with fewer than 3 edges any offset is taken, with 3 or more only one near the mean.
func TestEdgeFar(t *testing.T) {
	far := api.Span(1 << 30)
	lineOf(t, 5, 0, far)
	lineOf(t, 5, 0, 0, far)
	lineOf(t, 5, 0, far, -far)
	wantEdge(t, lineOf(t, 5, 0, 0, 0), at(8, far), false)
	wantEdge(t, lineOf(t, 5, 0, 0, 0), at(8, -far), false)
	wantEdge(t, lineOf(t, 5, 0, 0, 0, 0), at(9, far), false)
	// Three edges without any middle: their mean is far from each of them.
	l := lineOf(t, 5, 0, 0, far)
	wantEdge(t, l, at(8, 0), false)
	wantEdge(t, l, at(8, far), false)
	wantEdge(t, l, at(8, far/3), true)
	// A sample lets them all go.
	l = lineOf(t, 5, 0, 0, 0)
	wantSample(t, l, 0, 0, 0, 4096)
	for i := range 3 {
		wantEdge(t, l, at(8+i, far), true)
	}
	wantEdge(t, l, at(11, 0), false)
	wantEdge(t, l, at(11, far), true)
}

// P8.4: just 2^23 away from the mean is near, one more is not, either way.
func TestEdgeFarJust(t *testing.T) {
	const away = api.Span(1 << 23)
	for _, mean := range []api.Span{0, 1, -1, 7, -7, 1 << 20, -1 << 20, 1 << 30, -1 << 30} {
		for count := 3; count <= 20; count++ {
			for _, x := range []struct {
				offset api.Span
				want   bool
			}{
				{mean + away, true}, {mean + away + 1, false}, {mean + away - 1, true},
				{mean - away, true}, {mean - away - 1, false}, {mean - away + 1, true},
			} {
				l := lineOf(t, 5, same(count, mean)...)
				wantEdge(t, l, at(5+count, x.offset), x.want)
			}
		}
	}
	// Offsets of half a second are not near to those on the other side.
	for _, o := range []api.Span{-half, half - 1} {
		l := lineOf(t, 5, o, o, o)
		wantEdge(t, l, at(8, -half), o < 0)
		wantEdge(t, l, at(9, half-1), o > 0)
	}
}

// P8.4: the mean is that which Median tells, divided down, without the quarters.
func TestEdgeFarMean(t *testing.T) {
	const away = api.Span(1 << 23)
	// 0, 0 and -1: the mean is -1.
	wantEdge(t, lineOf(t, 5, 0, 0, -1), at(8, away), false)
	wantEdge(t, lineOf(t, 5, 0, 0, -1), at(8, away-1), true)
	wantEdge(t, lineOf(t, 5, 0, 0, -1), at(8, -away-1), true)
	// 0, 0 and 2: the mean is 0.
	wantEdge(t, lineOf(t, 5, 0, 0, 2), at(8, away), true)
	wantEdge(t, lineOf(t, 5, 0, 0, 2), at(8, away+1), false)
	// Of four the greatest one is left out.
	wantEdge(t, lineOf(t, 5, 0, 0, 3<<22, 0), at(9, away), true)
	wantEdge(t, lineOf(t, 5, 0, 0, 3<<22, 0), at(9, away+1), false)
	wantEdge(t, lineOf(t, 5, 0, 0, 3<<22, 0), at(9, -away), true)
}

// P8.4, P8.5: the last 16 are kept: the seventeenth takes the first one's place.
func TestEdgesKept(t *testing.T) {
	for count := 1; count <= 40; count++ {
		l := lineOf(t, 5, rising(count, 0, 1000)...)
		wantState(t, l, min(count, 16), [4]complex128{1, 1i, -1, -1i}[count%4])
	}
	wantSample(t, lineOf(t, 5, rising(15, 0, 1000)...), 0, 0, 7000, 4096+4000)
	wantSample(t, lineOf(t, 5, rising(16, 0, 1000)...), 0, 0, 7500, 4096+3500)
	wantSample(t, lineOf(t, 5, rising(17, 0, 1000)...), 0, 0, 8500, 4096+3500)
	wantSample(t, lineOf(t, 5, rising(18, 0, 1000)...), 0, 0, 9500, 4096+3500)
	wantSample(t, lineOf(t, 5, rising(33, 0, 1000)...), 0, 0, 24500, 4096+3500)
	wantSample(t, lineOf(t, 5, rising(100, 0, -1000)...), 0, 0, -91500, 4096+3500)
	// What is refused takes nobody's place.
	l := lineOf(t, 5, rising(16, 0, 1000)...)
	wantEdge(t, l, at(20, 0), false)
	wantEdge(t, l, at(21, 1<<24), false)
	wantState(t, l, 16, 1)
	wantSample(t, l, 0, 0, 7500, 4096+3500)
	// Edges ahead of a sample are gone, though there were more than 16.
	for i := range 3 {
		wantEdge(t, l, at(30+i, 9), true)
	}
	wantSample(t, l, 0, 0, 9, 4096)
}

// P8.5: no sample of 2 edges, one of 3, and no second one at once.
func TestSampleCounts(t *testing.T) {
	wantNoSample(t, lineOf(t, 5, 7))
	l := lineOf(t, 5, 7, 7)
	wantNoSample(t, l)
	wantNoSample(t, l)
	wantEdge(t, l, at(7, 7), true)
	wantSample(t, l, 9*second, 0, 7, 4096)
	wantNoSample(t, l)
	wantState(t, l, 0, -1i)
}

// P8.5: half of the spread is divided down; the mean is, too.
func TestSampleDisp(t *testing.T) {
	wantSample(t, lineOf(t, 5, 0, 0, 0), 0, 0, 0, 4096)
	wantSample(t, lineOf(t, 5, 0, 0, 1), 0, 0, 0, 4096)
	wantSample(t, lineOf(t, 5, 0, 0, 2), 0, 0, 0, 4097)
	wantSample(t, lineOf(t, 5, 0, 0, 3), 0, 0, 1, 4097)
	wantSample(t, lineOf(t, 5, 0, 0, -1), 0, 0, -1, 4096)
	wantSample(t, lineOf(t, 5, -3, 0, 2), 0, 0, -1, 4098)
	wantSample(t, lineOf(t, 5, -half, 0, half-1), 0, 0, -1, 4096+half-1)
	wantSample(t, lineOf(t, 5, -half, half-1, -half), 0, 0, -715827883, 4096+half-1)
	// Of four the least one and the greatest one are left out of the spread too.
	wantSample(t, lineOf(t, 5, -5000, 3, 5000, 8), 0, 0, 5, 4098)
}

// P8.5: the fudge is added behind the mean, and saturates; now is told as it is.
func TestSampleFudge(t *testing.T) {
	for _, x := range []struct{ fudge, want api.Span }{
		{0, 10}, {1, 11}, {-1, 9}, {-10, 0}, {-11, -1}, {second, second + 10}, {-5 * second, -5*second + 10},
		{api.MaxSpan - 11, api.MaxSpan - 1}, {api.MaxSpan - 10, api.MaxSpan}, {api.MaxSpan - 9, api.MaxSpan}, {api.MaxSpan, api.MaxSpan}, {math.MaxInt64, api.MaxSpan},
		{-api.MaxSpan, -api.MaxSpan + 10}, {-api.MaxSpan - 10, -api.MaxSpan}, {-api.MaxSpan - 11, -api.MaxSpan}, {math.MinInt64, -api.MaxSpan},
	} {
		for _, now := range []api.Stamp{0, 1, 9 * second, 1 << 63, last} {
			wantSample(t, lineOf(t, 5, 10, 10, 10), now, x.fudge, x.want, 4096)
		}
	}
	wantSample(t, lineOf(t, 5, -10, -10, -10), 0, -api.MaxSpan, -api.MaxSpan, 4096)
	wantSample(t, lineOf(t, 5, -10, -10, -10), 0, api.MaxSpan, api.MaxSpan-10, 4096)
}

// P8.4, P8.5: the phase is turned by edges that are taken, from New on, and by nothing else.
func TestPhase(t *testing.T) {
	l := pulse.New()
	phases := [4]complex128{1, 1i, -1, -1i}
	for i := range 100 {
		wantEdge(t, l, at(i, 3), true)
		wantEdge(t, l, at(i, 3), false)
		if i%7 == 6 {
			wantSample(t, l, 0, 0, 3, 4096)
		}
		if p := l.Phase(); p != phases[(i+1)%4] || p != l.Phase() {
			t.Errorf("behind %v edges the phase is %v", i+1, p)
		}
	}
}

// model says P8.4 and P8.5 of all edges that were ever taken.
type model struct {
	taken   []api.Stamp
	sampled int // how many of them there were at the last sample
}

func nearest(reading api.Stamp) api.Stamp {
	return reading + api.Stamp(offsetOf(reading))
}

func (m *model) offsets() []api.Span {
	var l []api.Span
	for _, reading := range m.taken[max(m.sampled, len(m.taken)-16):] {
		l = append(l, offsetOf(reading))
	}
	return l
}

func (m *model) edge(reading api.Stamp) bool {
	if n := len(m.taken); n > 0 && nearest(m.taken[n-1]) == nearest(reading) {
		return false
	}
	l := m.offsets()
	mean, _ := medianOf(l)
	if far := offsetOf(reading) - mean; len(l) >= 3 && (far > 1<<23 || far < -1<<23) {
		return false
	}
	m.taken = append(m.taken, reading)
	return true
}

func (m *model) sample(now api.Stamp, fudge api.Span) (api.Sample, bool) {
	l := m.offsets()
	if len(l) < 3 {
		return api.Sample{}, false
	}
	m.sampled = len(m.taken)
	mean, spread := medianOf(l)
	offset := max(-api.MaxSpan, min(mean+fudge, api.MaxSpan))
	return api.Sample{Offset: offset, Disp: spread>>1 + 4096, At: now}, true
}

func (m *model) phase() complex128 {
	return [4]complex128{1, 1i, -1, -1i}[len(m.taken)%4]
}

// step hands both the same drawn edge of the second s, at times a sample ahead of it, and holds them against each other.
func step(t *testing.T, r *rand.Rand, l *pulse.Line, m *model, s int) {
	t.Helper()
	if r.IntN(12) == 0 {
		now, fudge := api.Stamp(r.Uint64()), api.Span(int64(r.Uint64())>>(1+r.IntN(63)))
		got, is := l.Sample(now, fudge)
		if want, should := m.sample(now, fudge); got != want || is != should {
			t.Fatalf("Sample(%v, %v) is %v, %v, want %v, %v", now, fudge, got, is, want, should)
		}
	}
	offset := api.Span(r.IntN(1<<24) - 1<<23)
	if r.IntN(8) == 0 {
		offset = api.Span(r.IntN(second) - half)
	}
	got := l.Edge(at(s, offset))
	if want := m.edge(at(s, offset)); got != want {
		t.Fatalf("Edge(%v) is %v, want %v", at(s, offset), got, want)
	}
	if l.Len() != len(m.offsets()) || l.Phase() != m.phase() {
		t.Fatalf("%v edges, phase %v, want %v, %v", l.Len(), l.Phase(), len(m.offsets()), m.phase())
	}
}

// P8.4, P8.5: drawn edges and samples; two lines know nothing of one another.
func TestLinesDrawn(t *testing.T) {
	r := drawer(8)
	for range 200 {
		lines := [2]*pulse.Line{pulse.New(), pulse.New()}
		var models [2]model
		// Some runs go round the end of an era.
		s := [...]int{0, -100, 1<<32 - 100, 1<<31 - 100, r.IntN(1 << 32)}[r.IntN(5)]
		for range 200 {
			i := r.IntN(2)
			s += r.IntN(3)
			step(t, r, lines[i], &models[i], s)
		}
	}
}

// Two lines with the same edges are each as if there were one.
func TestTwoLines(t *testing.T) {
	a, b := pulse.New(), pulse.New()
	for i := range 5 {
		wantEdge(t, a, at(5+i, 10), true)
		wantEdge(t, b, at(5+i, -1<<30), true)
	}
	wantSample(t, a, 0, 0, 10, 4096)
	wantState(t, a, 0, 1i)
	wantState(t, b, 5, 1i)
	wantEdge(t, b, at(10, -1<<30), true)
	wantEdge(t, a, at(10, 10), true)
	wantSample(t, b, 0, 0, -1<<30, 4096)
	wantState(t, a, 1, -1)
	wantState(t, b, 0, -1)
}
