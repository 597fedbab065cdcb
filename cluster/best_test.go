package cluster_test

import (
	"math"
	"slices"
	"testing"

	"foliot/api"
	"foliot/cluster"
)

// wantBest says the answer once more, written out: which place of l.
func wantBest(t *testing.T, l []api.Cand, was, place int) {
	t.Helper()
	check(t, l)
	checkID(t, l, clusterOf(l), was)
	if got, is := cluster.Best(l, was); got != l[place] || !is {
		t.Errorf("of %v Best with %v is %v, %v, want %v", l, was, got, is, l[place])
	}
}

// strata has the Strata in turn; the Offsets tell the candidates apart.
func strata(all ...int) []api.Cand {
	var l []api.Cand
	for i, stratum := range all {
		l = append(l, api.Cand{ID: i + 1, Stratum: stratum, Offset: api.Span(i)})
	}
	return l
}

// numbered has the IDs in turn.
func numbered(l []api.Cand, ids ...int) []api.Cand {
	l = slices.Clone(l)
	for i, id := range ids {
		l[i].ID = id
	}
	return l
}

// P14.4: the chapter's table.
func TestBestExamples(t *testing.T) {
	wantBest(t, strata(1, 1, 2), 2, 1)
	wantBest(t, strata(1, 1, 2), 3, 0)
	wantBest(t, preferring(strata(1, 1, 2), 3), 2, 2)
}

// P14.4: of none there is no best one, whatever was.
func TestBestNone(t *testing.T) {
	for _, l := range [][]api.Cand{nil, {}, strata(1)[:0]} {
		for _, was := range []int{0, 1, -1, math.MinInt, math.MaxInt} {
			if got, is := cluster.Best(l, was); got != (api.Cand{}) || is {
				t.Errorf("of none Best with %v is %v, %v", was, got, is)
			}
		}
	}
}

// P14.4: without Prefer the one that was stays, if its Stratum is the first one's.
func TestBestWas(t *testing.T) {
	for _, was := range []int{0, -1, 4, 999, math.MinInt, math.MaxInt} {
		wantBest(t, strata(1, 1, 1), was, 0)
		wantBest(t, strata(3, 2, 1), was, 0)
		wantBest(t, strata(7), was, 0)
	}
	for place := range 5 {
		wantBest(t, strata(2, 2, 2, 2, 2), place+1, place)
		wantBest(t, strata(2, 3, 1, 16, math.MaxInt), place+1, 0)
		wantBest(t, numbered(strata(2, 2, 2, 2, 2), math.MinInt, -1, 0, 9, math.MaxInt), []int{math.MinInt, -1, 0, 9, math.MaxInt}[place], place)
	}
	wantBest(t, strata(2, 1, 2), 2, 0) // a lower one is another one too
	wantBest(t, strata(2, 1, 2), 3, 2)
	wantBest(t, strata(math.MinInt, 0, math.MinInt), 3, 2)
}

// P14.4: of several with the ID was the first one counts, whatever the further ones' Strata are.
func TestBestWasSame(t *testing.T) {
	wantBest(t, numbered(strata(1, 1, 1, 1), 1, 5, 5, 5), 5, 1)
	wantBest(t, numbered(strata(1, 2, 1, 1), 1, 5, 5, 5), 5, 0)
	wantBest(t, numbered(strata(1, 1, 2, 1), 1, 5, 5, 5), 5, 1)
	wantBest(t, numbered(strata(1, 2, 1), 5, 5, 5), 5, 0)
	wantBest(t, numbered(strata(1, 1, 1), 5, 5, 5), 5, 0)
}

// P14.4: the first one with Prefer is ahead of whoever was, whatever its Stratum is.
func TestBestPreferred(t *testing.T) {
	for was := range 6 {
		for place := range 5 {
			wantBest(t, preferring(strata(2, 2, 2, 2, 2), place+1), was, place)
			wantBest(t, preferring(strata(1, 2, 2, 1, 7), place+1), was, place)
			wantBest(t, preferring(strata(1, 1, 1, 1, 1), place+1, 5), was, place)
			wantBest(t, preferring(strata(1, 1, 1, 1, 1), 5, 4, place+1), was, min(place, 3))
		}
		wantBest(t, preferring(strata(1, 1, 1), 1, 2, 3), was, 0)
		wantBest(t, numbered(preferring(strata(1, 1, 1), 2), 4, 4, 4), was, 1)
	}
}

// P14.4: l stays as it stands: nothing is sorted, nobody is cast out, and a pulse is as good as any.
func TestBestAsItStands(t *testing.T) {
	l := offsets(7, 0, 0, 0, 90000)
	l[0].Dist, l[0].ID = top, 9
	wantBest(t, l, 0, 0)
	wantBest(t, l, 5, 4)
	wantBest(t, pulsing(l, 9), 0, 0)
	wantBest(t, pulsing(l, 5), 5, 4)
	wantBest(t, preferring(pulsing(l, 5), 5), 0, 4)
	many := strata(slices.Repeat([]int{1}, 100)...)
	wantBest(t, many, 100, 99)
	wantBest(t, preferring(many, 100), 3, 99)
}
