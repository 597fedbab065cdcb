package cluster_test

import (
	"slices"
	"testing"

	"foliot/api"
	"foliot/cluster"
)

// follow holds P14.6 against the answers of l, whatever it is.
func follow(t *testing.T, l []api.Cand) {
	t.Helper()
	left := cluster.Cluster(l)
	if len(left) < min(len(l), 3) || len(left) > min(len(l), 10) {
		t.Fatalf("of %v Cluster leaves %v", l, left)
	}
	for i := 1; i < len(left); i++ {
		if isBetter(left, i, i-1) {
			t.Fatalf("of %v Cluster leaves %v, not by merit", l, left)
		}
	}
	best := rankedOf(l)
	best = best[:min(len(best), 10)]
	for _, c := range left {
		place := slices.Index(best, c)
		if place < 0 {
			t.Fatalf("of %v Cluster leaves %v, who is none of the best", l, c)
		}
		best = slices.Delete(best, place, place+1)
	}
	for _, c := range best {
		if c.Prefer {
			t.Fatalf("of %v Cluster casts %v out", l, c)
		}
	}
	if again := cluster.Cluster(left); !slices.Equal(again, left) {
		t.Fatalf("of %v Cluster leaves %v, and of these %v", l, left, again)
	}
	followCombine(t, l)
	followCombine(t, left)
}

// followCombine: where no Offset is above 2^60 in size, the answer lies between the Offsets.
func followCombine(t *testing.T, l []api.Cand) {
	t.Helper()
	l = l[:min(len(l), 16)]
	if len(l) == 0 || slices.ContainsFunc(l, func(c api.Cand) bool { return c.Offset < -1<<60 || c.Offset > 1<<60 }) {
		return
	}
	low, high := l[0].Offset, l[0].Offset
	for _, c := range l {
		low, high = min(low, c.Offset), max(high, c.Offset)
	}
	if offset, _ := cluster.Combine(l); offset < low-api.Span(len(l)) || offset > high {
		t.Fatalf("of %v Combine is %v", l, offset)
	}
}

// P14.1 to P14.6: drawn lists of all kinds.
func TestDrawnAny(t *testing.T) {
	r := drawer(3)
	for range 1500 {
		l := drawAny(r)
		check(t, l)
		follow(t, l)
	}
}

// P14.1 to P14.6: drawn lists of candidates that are nearly alike.
func TestDrawnNear(t *testing.T) {
	r := drawer(4)
	lengths := map[int]int{}
	for n := range 2500 {
		l := drawNear(r, n%20, n%3 == 0)
		lengths[len(check(t, l))]++
		follow(t, l)
	}
	for length := range 11 {
		if lengths[length] < 20 {
			t.Errorf("%v times %v are left", lengths[length], length)
		}
	}
}

// P14.6: of Offsets of any size up to 2^60 and Dists of any size what Combine tells lies between.
func TestCombineBetween(t *testing.T) {
	r := drawer(5)
	for range 20000 {
		l := drawNear(r, 1+r.IntN(24), true)
		bits := r.IntN(61)
		for i := range l {
			l[i].Offset = api.Span(r.Int64N(1<<bits+1)) * api.Span(1-2*r.IntN(2))
			l[i].Dist = drawSpan(r)
		}
		followCombine(t, l)
	}
	// The edges: as many as count, as far apart as may be, and each part divided down.
	for count := 1; count <= 24; count++ {
		l := offsets(slices.Repeat([]api.Span{-1 << 60}, count)...)
		followCombine(t, l)
		l[0].Offset = 1 << 60
		followCombine(t, l)
		l = offsets(slices.Repeat([]api.Span{1 << 60}, count)...)
		followCombine(t, l)
		l[0].Offset = -1 << 60
		followCombine(t, l)
		l = offsets(slices.Repeat([]api.Span{-1}, count)...)
		l[0].Offset = 0
		followCombine(t, l)
	}
}

// P14.6: of unlike IDs the order of l changes nothing.
func TestClusterOrder(t *testing.T) {
	r := drawer(6)
	for n := range 1500 {
		l := drawNear(r, n%20, false)
		left := cluster.Cluster(l)
		results := map[int]cluster.Result{}
		for _, id := range idsAsked(l) {
			results[id] = cluster.Mitigate(l, id)
		}
		for range 3 {
			r.Shuffle(len(l), func(i, j int) { l[i], l[j] = l[j], l[i] })
			if got := cluster.Cluster(l); !slices.Equal(got, left) {
				t.Fatalf("of %v Cluster is %v, in another order %v", l, got, left)
			}
			for id, want := range results {
				if got := cluster.Mitigate(l, id); got != want {
					t.Fatalf("of %v Mitigate with %v is %v, in another order %v", l, id, got, want)
				}
			}
		}
	}
}

// What comes out of Cluster is the caller's, with its spare room: no call tells that it was spoilt, and l stays as it was.
func TestClusterIsNew(t *testing.T) {
	for count := range 15 {
		l := jittered(offsets(make([]api.Span, count)...), 5)
		was := slices.Clone(l)
		first, second := cluster.Cluster(l), cluster.Cluster(l)
		want := slices.Clone(second)
		spoil(first)
		spoil(first[:0])
		if !slices.Equal(l, was) || !slices.Equal(second, want) || !slices.Equal(cluster.Cluster(l), want) {
			t.Errorf("of %v Cluster's list is not the caller's", was)
		}
		// What l is changed to behind the call changes no answer.
		spoil(l)
		if !slices.Equal(second, want) {
			t.Errorf("of %v Cluster is %v behind a change of it", was, second)
		}
		// What was clustered is clustered again without harm.
		again := cluster.Cluster(second)
		spoil(again)
		if !slices.Equal(second, want) {
			t.Errorf("Cluster of %v changes it to %v", want, second)
		}
	}
}
