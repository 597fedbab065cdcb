package choose_test

import (
	"cmp"
	"math"
	"math/big"
	"math/rand/v2"
	"slices"
	"testing"

	"foliot/api"
	"foliot/choose"
)

const (
	u         = api.Span(1) << 16 // what a place is told in
	farDist   = api.Span(1) << 52
	farOffset = api.Span(1) << 60
)

// The signatures that the chapter lists.
var (
	_ func(c api.Cand, most api.Span) bool          = choose.Fit
	_ func(l []api.Cand) []complex128               = choose.Ends
	_ func(l []api.Cand) (api.Span, api.Span, bool) = choose.Meet
	_ func(l []api.Cand) []api.Cand                 = choose.Survivors
)

// counted says which of l count.
func counted(l []api.Cand) []api.Cand {
	l = slices.DeleteFunc(slices.Clone(l), func(c api.Cand) bool {
		return c.Dist < 0 || c.Dist > farDist || c.Offset < -farOffset || c.Offset > farOffset
	})
	return l[:min(len(l), 64)]
}

// interval is what a candidate says, in whole units.
type interval struct{ low, middle, high int64 }

func (v interval) holds(place int64) bool { return v.low <= place && place <= v.high }

// unitsBelow is the greatest number of units that is not above a + b.
func unitsBelow(a, b api.Span) int64 {
	sum := new(big.Int).Add(big.NewInt(int64(a)), big.NewInt(int64(b)))
	return sum.Div(sum, big.NewInt(int64(u))).Int64()
}

// unitsAbove is the least number of units that is not below a + b.
func unitsAbove(a, b api.Span) int64 {
	n := unitsBelow(a, b)
	if n*int64(u) < int64(a)+int64(b) {
		n++
	}
	return n
}

func intervalsOf(l []api.Cand) []interval {
	var all []interval
	for _, c := range counted(l) {
		all = append(all, interval{unitsBelow(c.Offset, -c.Dist), unitsBelow(c.Offset, 0), unitsAbove(c.Offset, c.Dist)})
	}
	return all
}

// endsOf says P13.2.
func endsOf(l []api.Cand) []complex128 {
	type end struct{ place, kind int64 }
	var all []end
	for _, v := range intervalsOf(l) {
		all = append(all, end{v.high, 1}, end{v.low, -1}, end{v.middle, 0})
	}
	slices.SortFunc(all, func(a, b end) int { return cmp.Or(cmp.Compare(a.place, b.place), cmp.Compare(a.kind, b.kind)) })
	var told []complex128
	for _, e := range all {
		told = append(told, complex(float64(e.place), float64(e.kind)))
	}
	return told
}

// heldBy are the places of ends that at least so many hold.
func heldBy(all []interval, many int) []int64 {
	var places []int64
	for _, v := range all {
		for _, place := range []int64{v.low, v.high} {
			held := 0
			for _, other := range all {
				if other.holds(place) {
					held++
				}
			}
			if held >= many {
				places = append(places, place)
			}
		}
	}
	return places
}

// meetOf says P13.3 without going from end to end: the points are the outermost places that n - f hold.
func meetOf(l []api.Cand) (low, high api.Span, found bool) {
	all := intervalsOf(l)
	for f := 0; 2*f < len(all); f++ {
		places := heldBy(all, len(all)-f)
		if len(places) == 0 {
			continue
		}
		point := interval{low: slices.Min(places), high: slices.Max(places)}
		outside := 0
		for _, v := range all {
			if !point.holds(v.middle) {
				outside++
			}
		}
		if outside <= f {
			return api.Span(point.low) * u, api.Span(point.high) * u, true
		}
	}
	return 0, 0, false
}

// survivorsOf says P13.4.
func survivorsOf(l []api.Cand) []api.Cand {
	low, high, found := meetOf(l)
	return slices.DeleteFunc(counted(l), func(c api.Cand) bool {
		middle := api.Span(unitsBelow(c.Offset, 0)) * u
		return !found || middle < low || middle > high
	})
}

// behind stands where a list has spare room.
var behind = api.Cand{ID: -7, Offset: 3, Dist: 4, Jitter: 5, Stratum: 6, Prefer: true, Pulse: true}

// check holds all answers of l against the promises, twice: between the two the first ones are spoilt, as they are the caller's.
func check(t *testing.T, l []api.Cand) (api.Span, api.Span, bool, []api.Cand) {
	t.Helper()
	room := append(slices.Clone(l), behind, behind)
	given, was := room[:len(l)], slices.Clone(room)
	ends, survivors := endsOf(l), survivorsOf(l)
	low, high, found := meetOf(l)
	for range 2 {
		gotEnds := choose.Ends(given)
		if !slices.Equal(gotEnds, ends) {
			t.Fatalf("of %v Ends are %v, want %v", l, gotEnds, ends)
		}
		gotLow, gotHigh, is := choose.Meet(given)
		if gotLow != low || gotHigh != high || is != found {
			t.Fatalf("of %v Meet is %v, %v, %v, want %v, %v, %v", l, gotLow, gotHigh, is, low, high, found)
		}
		told := choose.Survivors(given)
		if !slices.Equal(told, survivors) {
			t.Fatalf("of %v Survivors are %v, want %v", l, told, survivors)
		}
		spoil(gotEnds, complex(math.NaN(), 9))
		spoil(told, behind)
		if !slices.Equal(room, was) {
			t.Fatalf("%v is %v behind the calls", was, room)
		}
	}
	return low, high, found, survivors
}

// spoil writes into the spare room too.
func spoil[T any](l []T, x T) {
	for i := range l[:cap(l)] {
		l[:cap(l)][i] = x
	}
}

// wantMeet says the answers once more, written out: the points, and the IDs of those that survive.
func wantMeet(t *testing.T, l []api.Cand, low, high api.Span, ids ...int) {
	t.Helper()
	gotLow, gotHigh, found, told := check(t, l)
	if !found || gotLow != low || gotHigh != high || !slices.Equal(idsOf(told), ids) {
		t.Errorf("of %v: %v, %v, %v and %v, want %v, %v, true and %v", l, gotLow, gotHigh, found, idsOf(told), low, high, ids)
	}
}

func wantNone(t *testing.T, l []api.Cand) {
	t.Helper()
	low, high, found, told := check(t, l)
	if found || low != 0 || high != 0 || len(told) != 0 {
		t.Errorf("of %v: %v, %v, %v and %v, want none", l, low, high, found, idsOf(told))
	}
}

func idsOf(l []api.Cand) []int {
	var ids []int
	for _, c := range l {
		ids = append(ids, c.ID)
	}
	return ids
}

// upTo are the IDs from 1 on.
func upTo(n int) []int {
	var ids []int
	for i := range n {
		ids = append(ids, i+1)
	}
	return ids
}

// listOf has the IDs 1, 2 and so on, of offsets and distances in turn.
func listOf(said ...api.Span) []api.Cand {
	var l []api.Cand
	for i := 0; i < len(said); i += 2 {
		l = append(l, api.Cand{ID: i/2 + 1, Offset: said[i], Dist: said[i+1]})
	}
	return l
}

// alike are so many of one offset and distance, with the IDs from first on.
func alike(first, count int, offset, dist api.Span) []api.Cand {
	var l []api.Cand
	for i := range count {
		l = append(l, api.Cand{ID: first + i, Offset: offset, Dist: dist})
	}
	return l
}

// useless do not count, just so, or by far.
func useless() []api.Cand {
	return []api.Cand{
		{ID: 901, Dist: -1},
		{ID: 902, Dist: farDist + 1},
		{ID: 903, Offset: -farOffset - 1, Dist: u},
		{ID: 904, Offset: farOffset + 1, Dist: u},
		{ID: 905, Dist: math.MinInt64},
		{ID: 906, Dist: math.MaxInt64},
		{ID: 907, Offset: math.MinInt64},
		{ID: 908, Offset: math.MaxInt64},
		{ID: 909, Offset: math.MinInt64, Dist: math.MaxInt64, Prefer: true},
		{ID: 910, Offset: math.MaxInt64, Dist: math.MinInt64, Pulse: true},
	}
}

// between puts one that does not count ahead of each candidate, and behind the last one.
func between(l []api.Cand) []api.Cand {
	bad := useless()
	var mixed []api.Cand
	for i, c := range l {
		mixed = append(mixed, bad[i%len(bad)], c)
	}
	return append(mixed, bad...)
}

// some calls back with each choice of count candidates out of offsets and distances, one choice in one order.
func some(count int, offsets, dists []api.Span, back func(l []api.Cand)) {
	var l []api.Cand
	var from func(first int)
	from = func(first int) {
		if len(l) == count {
			back(l)
			return
		}
		for i := first; i < len(offsets)*len(dists); i++ {
			l = append(l, api.Cand{ID: len(l) + 1, Offset: offsets[i/len(dists)], Dist: dists[i%len(dists)]})
			from(i)
			l = l[:len(l)-1]
		}
	}
	from(0)
}

// small calls back with many short lists, of half units too.
func small(back func(l []api.Cand)) {
	const h = u / 2
	for count := range 5 {
		some(count, []api.Span{-3 * h, -2 * h, -h, 0, h, 2 * h, 3 * h}, []api.Span{0, h, 2 * h, 3 * h}, back)
	}
	for count := 5; count <= 6; count++ {
		some(count, []api.Span{-2 * u, -u, 0, u, 2 * u}, []api.Span{0, u, 2 * u}, back)
	}
}

func drawer(seed uint64) *rand.Rand { return rand.New(rand.NewPCG(13, seed)) }

// drawSpan is of any length up to 2^bits either way, often one of the edges.
func drawSpan(r *rand.Rand, bits int) api.Span {
	edge := api.Span(1) << bits
	edges := [...]api.Span{0, 1, -1, edge - 1, edge, edge + 1, -edge, -edge - 1, math.MinInt64, math.MaxInt64}
	if r.IntN(3) == 0 {
		return edges[r.IntN(len(edges))]
	}
	return api.Span(int64(r.Uint64()) >> (63 - r.IntN(bits+1)))
}

// drawAny has candidates of all kinds, of which not all count.
func drawAny(r *rand.Rand) []api.Cand {
	l := make([]api.Cand, r.IntN(80))
	for i := range l {
		l[i] = api.Cand{
			ID: r.IntN(9), Offset: drawSpan(r, 60), Dist: drawSpan(r, 52), Jitter: drawSpan(r, 62),
			Stratum: r.IntN(20) - 2, Prefer: r.IntN(2) == 0, Pulse: r.IntN(2) == 0,
		}
	}
	return l
}

// drawNear has candidates that count, most of them near each other.
func drawNear(r *rand.Rand, most int) []api.Cand {
	l := make([]api.Cand, r.IntN(most+1))
	wide := api.Span(1) << (1 + r.IntN(24))
	far := 1 + r.IntN(8)
	for i := range l {
		l[i] = api.Cand{ID: i + 1, Offset: api.Span(r.Int64N(int64(4*wide))) - 2*wide, Dist: api.Span(r.Int64N(int64(3 * wide)))}
		if r.IntN(far) == 0 {
			l[i].Offset += wide * api.Span(r.IntN(20)-10)
		}
	}
	return l
}
