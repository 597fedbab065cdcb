package cluster_test

import (
	"math"
	"math/big"
	"math/rand/v2"
	"slices"
	"testing"

	"foliot/api"
	"foliot/cluster"
)

const (
	most  = api.MaxSpan
	top   = api.Span(math.MaxInt64)
	least = api.Span(math.MinInt64)
	cost  = api.Span(6442450944) // of a stratum: three halves of a second
)

// The signatures that the chapter lists.
var (
	_ func(l []api.Cand) []api.Cand                = cluster.Cluster
	_ func(l []api.Cand, id int) api.Span          = cluster.Select
	_ func(l []api.Cand) (api.Span, api.Span)      = cluster.Combine
	_ func(l []api.Cand, was int) (api.Cand, bool) = cluster.Best
	_ func(l []api.Cand, was int) cluster.Result   = cluster.Mitigate
)

func whole[T ~int | ~int64](n T) *big.Int { return big.NewInt(int64(n)) }

func plus(a, b *big.Int) *big.Int { return new(big.Int).Add(a, b) }

func minus(a, b *big.Int) *big.Int { return new(big.Int).Sub(a, b) }

func times(a, b *big.Int) *big.Int { return new(big.Int).Mul(a, b) }

// over divides down; b is above 0.
func over(a, b *big.Int) *big.Int { return new(big.Int).Div(a, b) }

func saturated(a *big.Int) *big.Int {
	if a.CmpAbs(whole(most)) > 0 {
		return times(whole(most), whole(a.Sign()))
	}
	return a
}

// differenceOf is how much a's Offset is ahead of b's, saturated.
func differenceOf(a, b api.Cand) *big.Int {
	return saturated(minus(whole(a.Offset), whole(b.Offset)))
}

// jitterOf says the select jitter of the one at the place.
func jitterOf(l []api.Cand, place int) api.Span {
	others := slices.Concat(l[:place], l[place+1:])
	others = others[:min(len(others), 64)]
	if len(others) == 0 {
		return 0
	}
	sum := new(big.Int)
	for _, c := range others {
		away := differenceOf(l[place], c)
		sum = plus(sum, times(away, away))
	}
	return api.Span(new(big.Int).Sqrt(over(sum, whole(len(others)))).Int64())
}

// selectOf says P14.1.
func selectOf(l []api.Cand, id int) api.Span {
	for i, c := range l {
		if c.ID == id {
			return jitterOf(l, i)
		}
	}
	return 0
}

func meritOf(c api.Cand) *big.Int {
	strata := saturated(times(whole(cost), whole(c.Stratum)))
	return saturated(plus(whole(c.Dist), strata))
}

// isBetter tells whether the one at the place i is better than that at j.
func isBetter(l []api.Cand, i, j int) bool {
	if sign := meritOf(l[i]).Cmp(meritOf(l[j])); sign != 0 {
		return sign < 0
	}
	if l[i].ID != l[j].ID {
		return l[i].ID < l[j].ID
	}
	return i < j
}

// rankedOf sorts nothing: the place of each is how many are better.
func rankedOf(l []api.Cand) []api.Cand {
	ranked := make([]api.Cand, len(l))
	for i, c := range l {
		better := 0
		for j := range l {
			if isBetter(l, j, i) {
				better++
			}
		}
		ranked[better] = c
	}
	return ranked
}

// clusterOf says P14.2.
func clusterOf(l []api.Cand) []api.Cand {
	ranked := rankedOf(l)
	left := ranked[:min(len(ranked), 10)]
	if next := lessOf(left); len(next) < len(left) {
		return clusterOf(next)
	}
	return left
}

// lessOf is l without the one that goes, if one does.
func lessOf(l []api.Cand) []api.Cand {
	if len(l) <= 3 {
		return l
	}
	var jitters, quiets []api.Span
	for i, c := range l {
		quiets = append(quiets, c.Jitter)
		if c.Prefer {
			jitters = append(jitters, -1)
		} else {
			jitters = append(jitters, jitterOf(l, i))
		}
	}
	greatest := slices.Max(jitters)
	if greatest == -1 || greatest < slices.Min(quiets) {
		return l
	}
	last := len(l) - 1
	for jitters[last] != greatest {
		last--
	}
	return slices.Concat(l[:last], l[last+1:])
}

// weightOf is 2^40 by how many whole 2^8 a Dist has.
func weightOf(c api.Cand) *big.Int {
	parts := over(whole(c.Dist), whole(256))
	if parts.Sign() <= 0 {
		parts = whole(1)
	}
	return over(whole(1<<40), parts)
}

// combineOf says P14.3.
func combineOf(l []api.Cand) (api.Span, api.Span) {
	if len(l) == 0 {
		return 0, 0
	}
	l = l[:min(len(l), 16)]
	all := new(big.Int)
	for _, c := range l {
		all = plus(all, weightOf(c))
	}
	offset := whole(l[0].Offset)
	for _, c := range l[1:] {
		part := new(big.Int)
		if all.Sign() > 0 {
			part = saturated(over(times(differenceOf(c, l[0]), weightOf(c)), all))
		}
		offset = saturated(plus(offset, part))
	}
	jitter := jitterOf(l, 0)
	if l[0].Jitter > jitter {
		jitter = l[0].Jitter
	}
	return api.Span(offset.Int64()), jitter
}

// bestOf says P14.4: the place; -1 of none.
func bestOf(l []api.Cand, was int) int {
	place := -1
	for i := len(l) - 1; i >= 0; i-- {
		if l[i].ID == was {
			place = i
		}
	}
	if place == -1 || l[place].Stratum != l[0].Stratum {
		place = min(0, len(l)-1)
	}
	for i := len(l) - 1; i >= 0; i-- {
		if l[i].Prefer {
			place = i
		}
	}
	return place
}

// mitigateOf says P14.5 of S, what clustering left.
func mitigateOf(s []api.Cand, was int) cluster.Result {
	r := slices.DeleteFunc(slices.Clone(s), func(c api.Cand) bool { return c.Pulse })
	place := bestOf(r, was)
	if place == -1 {
		return cluster.Result{}
	}
	n := r[place]
	for _, p := range s {
		if p.Pulse && n.Offset >= -1073741824 && n.Offset <= 1073741824 {
			return cluster.Result{Peer: p.ID, Offset: p.Offset, Jitter: p.Jitter, OK: true, Pulse: true}
		}
	}
	if n.Prefer {
		return cluster.Result{Peer: n.ID, Offset: n.Offset, Jitter: n.Jitter, OK: true}
	}
	offset, jitter := combineOf(append([]api.Cand{n}, slices.Delete(slices.Clone(r), place, place+1)...))
	return cluster.Result{Peer: n.ID, Offset: offset, Jitter: jitter, OK: true}
}

// behind stands where a list has spare room.
var behind = api.Cand{ID: -7, Offset: 3, Dist: 4, Jitter: 5, Stratum: 6, Prefer: true, Pulse: true}

// spoil writes into the spare room too.
func spoil(l []api.Cand) {
	for i := range l[:cap(l)] {
		l[:cap(l)][i] = behind
	}
}

// check holds all answers of l against the promises, twice: between the two the first ones are spoilt, as they are the caller's.
func check(t *testing.T, l []api.Cand) []api.Cand {
	t.Helper()
	room := append(slices.Clone(l), behind, behind)
	given, was := room[:len(l)], slices.Clone(room)
	left := clusterOf(l)
	for range 2 {
		got := cluster.Cluster(given)
		if !slices.Equal(got, left) {
			t.Fatalf("of %v Cluster is %v, want %v", l, got, left)
		}
		if again := cluster.Cluster(got); !slices.Equal(again, left) {
			t.Fatalf("of %v Cluster is %v, clustered again %v", l, left, again)
		}
		spoil(got)
		checkCombine(t, given)
		for _, id := range idsAsked(l) {
			checkID(t, given, left, id)
		}
		if !slices.Equal(room, was) {
			t.Fatalf("%v is %v behind the calls", was, room)
		}
	}
	return left
}

func checkCombine(t *testing.T, l []api.Cand) {
	t.Helper()
	offset, jitter := cluster.Combine(l)
	if wantOffset, wantJitter := combineOf(l); offset != wantOffset || jitter != wantJitter {
		t.Fatalf("of %v Combine is %v, %v, want %v, %v", l, offset, jitter, wantOffset, wantJitter)
	}
}

// checkID holds what hangs on an ID.
func checkID(t *testing.T, l, left []api.Cand, id int) {
	t.Helper()
	if got, want := cluster.Select(l, id), selectOf(l, id); got != want {
		t.Fatalf("of %v Select of %v is %v, want %v", l, id, got, want)
	}
	want, place := api.Cand{}, bestOf(l, id)
	if place >= 0 {
		want = l[place]
	}
	if got, is := cluster.Best(l, id); got != want || is != (place >= 0) {
		t.Fatalf("of %v Best with %v is %v, %v, want %v", l, id, got, is, want)
	}
	if got, want := cluster.Mitigate(l, id), mitigateOf(left, id); got != want {
		t.Fatalf("of %v Mitigate with %v is %v, want %v", l, id, got, want)
	}
}

// idsAsked are those of l, and some that it hardly has.
func idsAsked(l []api.Cand) []int {
	ids := append(idsOf(l), 0, -1, 1, 999, math.MinInt, math.MaxInt)
	slices.Sort(ids)
	return slices.Compact(ids)
}

func idsOf(l []api.Cand) []int {
	var ids []int
	for _, c := range l {
		ids = append(ids, c.ID)
	}
	return ids
}

// upTo are the IDs from 1 on.
func upTo(n int) []int {
	var ids []int
	for i := range n {
		ids = append(ids, i+1)
	}
	return ids
}

// offsets has the IDs 1, 2 and so on; all else as the chapter's examples have it.
func offsets(all ...api.Span) []api.Cand {
	var l []api.Cand
	for i, offset := range all {
		l = append(l, api.Cand{ID: i + 1, Offset: offset, Dist: 1 << 24, Jitter: 10, Stratum: 1})
	}
	return l
}

// with has each candidate changed by change.
func with(l []api.Cand, change func(c *api.Cand)) []api.Cand {
	l = slices.Clone(l)
	for i := range l {
		change(&l[i])
	}
	return l
}

func jittered(l []api.Cand, jitter api.Span) []api.Cand {
	return with(l, func(c *api.Cand) { c.Jitter = jitter })
}

// preferring has Prefer set of those with the IDs.
func preferring(l []api.Cand, ids ...int) []api.Cand {
	return with(l, func(c *api.Cand) { c.Prefer = c.Prefer || slices.Contains(ids, c.ID) })
}

// pulsing has Pulse set of those with the IDs.
func pulsing(l []api.Cand, ids ...int) []api.Cand {
	return with(l, func(c *api.Cand) { c.Pulse = c.Pulse || slices.Contains(ids, c.ID) })
}

func drawer(seed uint64) *rand.Rand { return rand.New(rand.NewPCG(14, seed)) }

// drawSpan is of any length, often one at which an answer turns.
func drawSpan(r *rand.Rand) api.Span {
	edges := [...]api.Span{0, 1, -1, 255, 256, 257, 511, 512, 1 << 30, -1 << 30, 1<<30 + 1, -1<<30 - 1, 1<<48 + 255, 1<<48 + 256, most, -most, most + 1, top, least}
	if r.IntN(3) == 0 {
		return edges[r.IntN(len(edges))]
	}
	return api.Span(int64(r.Uint64()) >> r.IntN(64))
}

func drawStratum(r *rand.Rand) int {
	edges := [...]int{715827882, 715827883, -715827882, -715827883, math.MaxInt, math.MinInt}
	switch r.IntN(8) {
	case 0:
		return edges[r.IntN(len(edges))]
	case 1:
		return int(drawSpan(r))
	}
	return r.IntN(4)
}

// drawAny has candidates of all kinds, of which some have the same ID.
func drawAny(r *rand.Rand) []api.Cand {
	l := make([]api.Cand, r.IntN(1+r.IntN(30)))
	for i := range l {
		l[i] = api.Cand{
			ID: r.IntN(20), Offset: drawSpan(r), Dist: drawSpan(r), Jitter: drawSpan(r), Stratum: drawStratum(r),
			Prefer: r.IntN(8) == 0, Pulse: r.IntN(4) == 0,
		}
	}
	return l
}

// drawNear has candidates that are nearly alike, so that merits and jitters often are; some have the same ID, if so told.
func drawNear(r *rand.Rand, count int, same bool) []api.Cand {
	l := make([]api.Cand, count)
	wide, far, noise := 1+r.Int64N(12), 1+r.IntN(9), 1+r.Int64N(40)
	for i, id := range r.Perm(count) {
		l[i] = api.Cand{
			ID: id + 1, Offset: api.Span(r.Int64N(wide)), Dist: api.Span(r.Int64N(4)) << (6 + r.IntN(6)), Jitter: api.Span(r.Int64N(noise)),
			Stratum: r.IntN(2), Prefer: r.IntN(10) == 0, Pulse: r.IntN(6) == 0,
		}
		if r.IntN(far) == 0 {
			l[i].Offset += api.Span(r.Int64N(1 << 32))
		}
		if same && r.IntN(3) == 0 {
			l[i].ID = 1 + r.IntN(3)
		}
	}
	return l
}
