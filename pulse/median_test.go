package pulse_test

import (
	"math"
	"math/big"
	"math/rand/v2"
	"slices"
	"testing"

	"foliot/api"
	"foliot/pulse"
)

// cut is x, but at most a second, and at least its negative.
func cut(x api.Span) api.Span {
	if x > second {
		return second
	}
	if x < -second {
		return -second
	}
	return x
}

func cutAll(l []api.Span) []api.Span {
	var out []api.Span
	for _, x := range l {
		out = append(out, cut(x))
	}
	return out
}

// medianOf says P8.2 by taking away, one by one, a least one and a greatest one, and by a quotient of numbers without end.
func medianOf(l []api.Span) (api.Span, api.Span) {
	if len(l) > 64 {
		l = l[:64]
	}
	if len(l) == 0 {
		return 0, 0
	}
	rest := cutAll(l)
	for range len(l) / 4 {
		i := slices.Index(rest, slices.Min(rest))
		rest = slices.Delete(rest, i, i+1)
		i = slices.Index(rest, slices.Max(rest))
		rest = slices.Delete(rest, i, i+1)
	}
	sum := new(big.Int)
	for _, x := range rest {
		sum.Add(sum, big.NewInt(int64(x)))
	}
	// Div of a divisor above 0 divides down.
	mean := sum.Div(sum, big.NewInt(int64(len(rest))))
	return api.Span(mean.Int64()), slices.Max(rest) - slices.Min(rest)
}

func wantMedian(t *testing.T, l []api.Span, mean, spread api.Span) {
	t.Helper()
	if m, w := pulse.Median(l); m != mean || w != spread {
		t.Errorf("Median(%v) is %v and %v, want %v and %v", l, m, w, mean, spread)
	}
	// The tests' own form of the promise has to say the same.
	if m, w := medianOf(l); m != mean || w != spread {
		t.Errorf("of %v %v and %v are expected, want %v and %v", l, m, w, mean, spread)
	}
}

// rising are first, first + step and so on, as many as count.
func rising(count int, first, step api.Span) []api.Span {
	var l []api.Span
	for i := range count {
		l = append(l, first+api.Span(i)*step)
	}
	return l
}

// same is x, as often as count.
func same(count int, x api.Span) []api.Span { return rising(count, x, 0) }

// drawSpan is of any length, often one of a few.
func drawSpan(r *rand.Rand) api.Span {
	some := [...]api.Span{0, 1, -1, second, second + 1, second - 1, -second, -second - 1, -second + 1, math.MaxInt64, math.MinInt64, api.MaxSpan, -api.MaxSpan}
	if r.IntN(4) == 0 {
		return some[r.IntN(len(some))]
	}
	return api.Span(int64(r.Uint64()) >> r.IntN(64))
}

func drawSpans(r *rand.Rand, count int) []api.Span {
	l := make([]api.Span, count)
	for i := range l {
		l[i] = drawSpan(r)
	}
	return l
}

// P8.2: the chapter's examples.
func TestMedianExamples(t *testing.T) {
	wantMedian(t, []api.Span{1, 2, 3, 100}, 2, 1)
	wantMedian(t, []api.Span{5}, 5, 0)
	wantMedian(t, nil, 0, 0)
	wantMedian(t, []api.Span{}, 0, 0)
	wantMedian(t, []api.Span{-1, 0}, -1, 1)
	wantMedian(t, []api.Span{1 << 40, 0, 0, 0}, 0, 0)
}

// P8.2: up to three spans nothing is left out, from four on a quarter either way, divided down.
func TestMedianCounts(t *testing.T) {
	wantMedian(t, []api.Span{10, 0}, 5, 10)
	wantMedian(t, []api.Span{900, 0, 0}, 300, 900)
	wantMedian(t, []api.Span{900, 2, 4, -900}, 3, 2)
	wantMedian(t, []api.Span{900, 2, 4, -900, 6}, 4, 4)
	wantMedian(t, []api.Span{900, 2, 4, -900, 6, 8, -2}, 3, 10)
	wantMedian(t, []api.Span{900, 2, 4, -900, 6, 8, 901, -901}, 5, 6)
	wantMedian(t, rising(8, 0, 10), 35, 30)
	// Of 63 15 are left out either way, of 64 16.
	wantMedian(t, rising(63, 0, 10), 310, 320)
	wantMedian(t, rising(64, 0, 10), 315, 310)
}

// P8.2: what stands behind the first 64 counts for nothing.
func TestMedianBehind64(t *testing.T) {
	wantMedian(t, rising(65, 0, 10), 315, 310)
	wantMedian(t, rising(1000, 0, 10), 315, 310)
	wantMedian(t, append(same(64, 7), same(100, 1000)...), 7, 0)
	wantMedian(t, append(same(64, 7), same(1000, -1000)...), 7, 0)
	wantMedian(t, append(same(63, 7), same(1000, -1000)...), 7, 0)
	wantMedian(t, append(same(40, 0), same(1000, 64)...), 16, 64)
	long := rising(100, 0, 1)
	slices.Reverse(long)
	wantMedian(t, long, 67, 31)
}

// P8.2: each is cut at a second either way, ahead of the mean.
func TestMedianCuts(t *testing.T) {
	for _, x := range []struct{ x, want api.Span }{
		{second - 1, second - 1}, {second, second}, {second + 1, second}, {1 << 40, second}, {api.MaxSpan, second}, {math.MaxInt64, second},
		{-second + 1, -second + 1}, {-second, -second}, {-second - 1, -second}, {-1 << 40, -second}, {-api.MaxSpan, -second}, {math.MinInt64, -second},
	} {
		for _, count := range []int{1, 2, 3, 4, 5, 63, 64, 65} {
			wantMedian(t, same(count, x.x), x.want, 0)
		}
	}
	wantMedian(t, []api.Span{math.MaxInt64, math.MinInt64}, 0, 2*second)
	wantMedian(t, []api.Span{math.MaxInt64, 0}, half, second)
	wantMedian(t, []api.Span{math.MinInt64, 0}, -half, second)
	wantMedian(t, []api.Span{math.MinInt64, math.MinInt64, 0}, -2863311531, second)
	wantMedian(t, []api.Span{math.MaxInt64, math.MaxInt64, 0}, 2863311530, second)
	wantMedian(t, append(same(32, math.MinInt64), same(32, math.MaxInt64)...), 0, 2*second)
}

// P8.2: sums that do not divide evenly are divided down, below 0 too.
func TestMedianDividesDown(t *testing.T) {
	wantMedian(t, []api.Span{0, 1}, 0, 1)
	wantMedian(t, []api.Span{0, 0, 1}, 0, 1)
	wantMedian(t, []api.Span{0, 1, 1}, 0, 1)
	wantMedian(t, []api.Span{1, 1, 2}, 1, 1)
	wantMedian(t, []api.Span{0, 0, -1}, -1, 1)
	wantMedian(t, []api.Span{0, -1, -1}, -1, 1)
	wantMedian(t, []api.Span{-1, -1, -2}, -2, 1)
	wantMedian(t, []api.Span{-1, -1, -1}, -1, 0)
	wantMedian(t, []api.Span{-3, 0}, -2, 3)
	wantMedian(t, []api.Span{-9, -1, 0, 0, 9}, -1, 1)
	wantMedian(t, []api.Span{-9, 1, 0, 0, 9}, 0, 1)
}

// P8.2: equal ones are each left out by themselves.
func TestMedianEqualOnes(t *testing.T) {
	wantMedian(t, []api.Span{5, 5, 5, 5}, 5, 0)
	wantMedian(t, []api.Span{1, 1, 1, 9}, 1, 0)
	wantMedian(t, []api.Span{1, 1, 9, 9}, 5, 8)
	wantMedian(t, []api.Span{1, 1, 1, 9, 9, 9, 9, 9}, 7, 8)
	wantMedian(t, append(same(16, 3), same(48, 8)...), 8, 0)
	wantMedian(t, append(same(17, 0), same(47, 32)...), 31, 32)
	wantMedian(t, append(same(32, -4), same(32, 4)...), 0, 8)
}

// P8.2: any spans, and as many as one likes.
func TestMedianDrawn(t *testing.T) {
	r := drawer(2)
	for i := range 20000 {
		l := drawSpans(r, i%80)
		mean, spread := medianOf(l)
		wantMedian(t, l, mean, spread)
	}
}

// P8.2, P8.6: the same spans in another order: each order of up to six, some of more.
func TestMedianOrders(t *testing.T) {
	var each func(l []api.Span, from int, mean, spread api.Span)
	each = func(l []api.Span, from int, mean, spread api.Span) {
		if from == len(l) {
			wantMedian(t, l, mean, spread)
			return
		}
		for i := from; i < len(l); i++ {
			l[from], l[i] = l[i], l[from]
			each(l, from+1, mean, spread)
			l[from], l[i] = l[i], l[from]
		}
	}
	each([]api.Span{-7, 0, 8}, 0, 0, 15)
	each([]api.Span{-70, 1, 8, 1 << 40}, 0, 4, 7)
	each([]api.Span{-70, 1, 8, 8, 1 << 40}, 0, 5, 7)
	each([]api.Span{math.MinInt64, 1, 2, 8, 9, math.MaxInt64}, 0, 5, 8)
	r := drawer(3)
	for i := range 2000 {
		l := drawSpans(r, i%65)
		mean, spread := pulse.Median(l)
		for range 5 {
			r.Shuffle(len(l), func(i, j int) { l[i], l[j] = l[j], l[i] })
			wantMedian(t, l, mean, spread)
		}
	}
}

// P8.6: the mean lies between the least and the greatest one.
func TestMedianLiesBetween(t *testing.T) {
	r := drawer(4)
	for i := range 20000 {
		l := drawSpans(r, 1+i%64)
		mean, spread := pulse.Median(l)
		least, greatest := slices.Min(cutAll(l)), slices.Max(cutAll(l))
		if mean < least || mean > greatest || spread < 0 || spread > greatest-least {
			t.Fatalf("Median(%v) is %v and %v", l, mean, spread)
		}
	}
}

// P8.6: a quarter of wild ones, either way or both, moves the mean no further than the others reach.
func TestMedianOfWildOnes(t *testing.T) {
	r := drawer(5)
	wild := [...]api.Span{math.MaxInt64, math.MinInt64, second, -second, 1 << 30, -1 << 30}
	for i := range 20000 {
		count := 1 + i%64
		l := make([]api.Span, count)
		for j := range l {
			l[j] = api.Span(r.IntN(2001) - 1000)
		}
		least, greatest := slices.Min(l[count/4:]), slices.Max(l[count/4:])
		one := wild[r.IntN(len(wild))]
		for j := range count / 4 {
			l[j] = one
			if i%2 == 0 {
				l[j] = wild[r.IntN(len(wild))]
			}
		}
		r.Shuffle(len(l), func(i, j int) { l[i], l[j] = l[j], l[i] })
		mean, spread := pulse.Median(l)
		if mean < least || mean > greatest || spread > greatest-least {
			t.Fatalf("Median(%v) is %v and %v, the others are from %v to %v", l, mean, spread, least, greatest)
		}
	}
	// One more than a quarter does move it.
	wantMedian(t, []api.Span{0, 0, 900}, 300, 900)
	wantMedian(t, []api.Span{0, 0, 900, 900}, 450, 900)
}

// R3: the list stays as it is, what lies behind its length too, and is not kept.
func TestMedianLeavesTheList(t *testing.T) {
	r := drawer(6)
	for i := range 300 {
		whole := drawSpans(r, i+5)
		before := slices.Clone(whole)
		l := whole[:i%80%(i+1)]
		mean, spread := pulse.Median(l)
		if !slices.Equal(whole, before) {
			t.Fatalf("%v became %v", before, whole)
		}
		first := slices.Clone(l)
		for j := range whole {
			whole[j] = math.MaxInt64
		}
		wantMedian(t, first, mean, spread)
	}
}
