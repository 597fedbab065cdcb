package cluster_test

import (
	"math"
	"slices"
	"testing"

	"foliot/api"
	"foliot/cluster"
)

// wantCluster says the answer once more, written out: the IDs, in their order.
func wantCluster(t *testing.T, l []api.Cand, ids ...int) {
	t.Helper()
	check(t, l)
	if got := idsOf(cluster.Cluster(l)); !slices.Equal(got, ids) {
		t.Errorf("of %v Cluster is %v, want %v", l, got, ids)
	}
}

// P14.2: the chapter's table.
func TestClusterExamples(t *testing.T) {
	l := offsets(0, 1, 2, 1000)
	wantCluster(t, l, 1, 2, 3)
	wantCluster(t, jittered(l, 2000), 1, 2, 3, 4)
	wantCluster(t, preferring(l, 4), 2, 3, 4)
}

// P14.2: up to three stay, whatever they say.
func TestClusterFew(t *testing.T) {
	wantCluster(t, nil)
	wantCluster(t, []api.Cand{})
	wantCluster(t, offsets(77), 1)
	wantCluster(t, offsets(0, 1<<40), 1, 2)
	wantCluster(t, offsets(0, 1<<40, -1<<50), 1, 2, 3)
	wantCluster(t, offsets(0, 1<<40, -1<<50, 7), 1, 2, 4)
	wantCluster(t, jittered(offsets(top, least, 0), least), 1, 2, 3)
}

// P14.2: as long as they are loud four and more stay; of more than ten the first ten.
func TestClusterMany(t *testing.T) {
	for count := range 25 {
		l := jittered(offsets(make([]api.Span, count)...), 1)
		wantCluster(t, l, upTo(min(count, 10))...)
		slices.Reverse(l)
		wantCluster(t, l, upTo(min(count, 10))...)
		// All alike and none of them loud: the last ones go.
		wantCluster(t, jittered(l, 0), upTo(min(count, 3))...)
	}
}

// P14.2: candidates are told whole.
func TestClusterWhole(t *testing.T) {
	one := api.Cand{ID: 9, Offset: -5, Dist: 300, Jitter: -4, Stratum: 2, Prefer: true, Pulse: true}
	two := api.Cand{ID: -3, Offset: top, Dist: -1, Jitter: top, Stratum: -1}
	for _, l := range [][]api.Cand{{one, two}, {two, one}} {
		check(t, l)
		if got := cluster.Cluster(l); !slices.Equal(got, []api.Cand{two, one}) {
			t.Errorf("of %v Cluster is %v", l, got)
		}
	}
}

// By merit: a stratum is three halves of a second; of the same merit the lower ID is first, of the same ID the one ahead.
func TestMeritOrder(t *testing.T) {
	for _, x := range []struct {
		what string
		a, b api.Cand // a is better
	}{
		{"Dist", api.Cand{ID: 2, Dist: 3}, api.Cand{ID: 1, Dist: 4}},
		{"Dist below 0", api.Cand{ID: 2, Dist: -1}, api.Cand{ID: 1}},
		{"Stratum", api.Cand{ID: 2, Stratum: 1}, api.Cand{ID: 1, Stratum: 2}},
		{"Stratum below 0", api.Cand{ID: 2, Stratum: -1}, api.Cand{ID: 1}},
		{"Stratum and Dist, less", api.Cand{ID: 2, Stratum: 1}, api.Cand{ID: 1, Dist: cost + 1}},
		{"Stratum and Dist, alike", api.Cand{ID: 1, Stratum: 1}, api.Cand{ID: 2, Dist: cost}},
		{"Dist and Stratum, alike", api.Cand{ID: 1, Dist: cost}, api.Cand{ID: 2, Stratum: 1}},
		{"Stratum and Dist, more", api.Cand{ID: 2, Dist: cost - 1}, api.Cand{ID: 1, Stratum: 1}},
		{"Strata and Dists", api.Cand{ID: 2, Stratum: 15, Dist: 7}, api.Cand{ID: 1, Stratum: 14, Dist: cost + 8}},
		{"Stratum below 0 and Dist", api.Cand{ID: 1, Stratum: -2, Dist: 2 * cost}, api.Cand{ID: 2}},
		{"IDs", api.Cand{ID: 1}, api.Cand{ID: 2}},
		{"IDs below 0", api.Cand{ID: -2}, api.Cand{ID: -1}},
		{"IDs far apart", api.Cand{ID: math.MinInt}, api.Cand{ID: math.MaxInt}},
		{"the merit ahead of the ID", api.Cand{ID: 9}, api.Cand{ID: 1, Dist: 1}},
		{"all else", api.Cand{ID: 1, Offset: 9, Jitter: 9}, api.Cand{ID: 2, Prefer: true, Pulse: true}},

		{"Dists at the bound", api.Cand{ID: 1, Dist: top}, api.Cand{ID: 2, Dist: most}},
		{"a Dist just below the bound", api.Cand{ID: 2, Dist: most - 1}, api.Cand{ID: 1, Dist: top}},
		{"Dists at the lower bound", api.Cand{ID: 1, Dist: -most}, api.Cand{ID: 2, Dist: least}},
		{"a Dist at the lower bound", api.Cand{ID: 2, Dist: least}, api.Cand{ID: 1, Dist: 1 - most}},
		{"Strata at the bound", api.Cand{ID: 1, Stratum: math.MaxInt}, api.Cand{ID: 2, Stratum: 715827883}},
		{"a Stratum just below the bound", api.Cand{ID: 2, Stratum: 715827882}, api.Cand{ID: 1, Stratum: 715827883}},
		{"a Stratum at the bound, and a Dist", api.Cand{ID: 2, Stratum: 715827884, Dist: -1}, api.Cand{ID: 1, Stratum: 715827883}},
		{"a Stratum far above the bound, and a Dist", api.Cand{ID: 2, Stratum: math.MaxInt, Dist: least}, api.Cand{ID: 1, Dist: 1 - most}},
		{"Strata at the lower bound", api.Cand{ID: 1, Stratum: -715827883}, api.Cand{ID: 2, Stratum: math.MinInt}},
		{"a Stratum just above the lower bound", api.Cand{ID: 2, Stratum: -715827883}, api.Cand{ID: 1, Stratum: -715827882}},
		{"a Stratum at the lower bound, and a Dist", api.Cand{ID: 2, Stratum: -715827883}, api.Cand{ID: 1, Stratum: math.MinInt, Dist: 1}},
		{"the sum at the bound", api.Cand{ID: 1, Stratum: math.MaxInt, Dist: 1}, api.Cand{ID: 2, Stratum: math.MaxInt, Dist: top}},
		{"the sum at the lower bound", api.Cand{ID: 1, Stratum: math.MinInt, Dist: -1}, api.Cand{ID: 2, Stratum: math.MinInt, Dist: least}},
		{"a Dist above the bound is whole ahead of the sum", api.Cand{ID: 2, Stratum: -715827883, Dist: most}, api.Cand{ID: 1, Stratum: -715827883, Dist: most + 1}},
	} {
		for _, l := range [][]api.Cand{{x.a, x.b}, {x.b, x.a}} {
			check(t, l)
			if got := cluster.Cluster(l); !slices.Equal(got, []api.Cand{x.a, x.b}) {
				t.Errorf("%s: Cluster is %v", x.what, got)
			}
		}
	}
}

// By merit: of alike merits and IDs the one ahead is better, however many there are.
func TestMeritStays(t *testing.T) {
	for _, count := range []int{2, 3, 10, 11, 100} {
		l := jittered(offsets(make([]api.Span, count)...), top)
		for i := range l {
			l[i].ID, l[i].Offset = 7, api.Span(i*i%17)
		}
		if got := cluster.Cluster(l); !slices.Equal(got, l[:min(count, 10)]) {
			t.Errorf("of %v Cluster is %v", l, got)
		}
		last := api.Cand{ID: 6, Dist: 1 << 24, Jitter: top, Stratum: 1}
		if got := cluster.Cluster(append(l, last)); got[0] != last || !slices.Equal(got[1:], l[:min(count, 9)]) {
			t.Errorf("of %v Cluster is %v", l, got)
		}
	}
}

// By merit: those with one ID stay as they stand, though others are between them.
func TestMeritStaysBetween(t *testing.T) {
	for _, count := range []int{5, 20, 100, 1000} {
		l := jittered(offsets(make([]api.Span, count)...), top)
		var low, high []api.Cand
		for i := range l {
			l[i].ID, l[i].Offset = 7, api.Span(i)
			if i*i%11 == 4 {
				l[i].ID = 6
				low = append(low, l[i])
			} else {
				high = append(high, l[i])
			}
		}
		if got, want := cluster.Cluster(l), append(low, high...); !slices.Equal(got, want[:min(count, 10)]) {
			t.Errorf("of %v Cluster is %v, want %v", l, got, want)
		}
		slices.Reverse(l)
		slices.Reverse(low)
		slices.Reverse(high)
		if got, want := cluster.Cluster(l), append(low, high...); !slices.Equal(got, want[:min(count, 10)]) {
			t.Errorf("of %v Cluster is %v, want %v", l, got, want)
		}
	}
}

// P14.2: a select jitter less than the quiet is the end; one that is just the quiet is not.
func TestClusterQuiet(t *testing.T) {
	for _, x := range []struct {
		far, jitter api.Span
		stays       bool
	}{
		{9, 10, true},
		{10, 10, false},
		{11, 10, false},
		{-9, 10, true},
		{-10, 10, false},
		{-11, 10, false},
		{0, 1, true},
		{0, 0, false},
		{0, -1, false},
		{0, least, false},
		{1, 1, false},
		{1, 2, true},
		{most - 1, most, true},
		{most, most, false},
		{top, most, false},
		{top, most + 1, true},
		{least, top, true},
	} {
		l := jittered(offsets(0, 0, 0, x.far), x.jitter)
		if x.stays {
			wantCluster(t, l, 1, 2, 3, 4)
		} else {
			wantCluster(t, l, 1, 2, 3)
		}
		// It is the least Jitter that counts, whosever it is.
		for i := range l {
			other := jittered(l, top)
			other[i].Jitter = x.jitter
			if x.stays {
				wantCluster(t, other, 1, 2, 3, 4)
			} else {
				wantCluster(t, other, 1, 2, 3)
			}
		}
	}
}

// P14.2: the least Jitter of one with Prefer counts too.
func TestClusterQuietPreferred(t *testing.T) {
	l := preferring(jittered(offsets(0, 0, 0, 10), 11), 2)
	wantCluster(t, l, 1, 2, 3, 4)
	l[1].Jitter = 10
	wantCluster(t, l, 1, 2, 3)
}

// P14.2: what went, or stands behind the tenth, counts no more: neither its Jitter nor its Offset.
func TestClusterAgain(t *testing.T) {
	l := jittered(offsets(0, 0, 0, 100, 100000), 500)
	l[4].Jitter = 1
	wantCluster(t, l, 1, 2, 3, 4) // behind the fifth one 500 is the quiet
	l = jittered(offsets(0, 0, 0, 5, 1000), 6)
	wantCluster(t, l, 1, 2, 3, 4) // behind the fifth one 5 is the greatest select jitter
	l = jittered(offsets(0, 0, 0, 5, 1000), 5)
	wantCluster(t, l, 1, 2, 3)

	l = jittered(offsets(0, 0, 0, 0, 0, 0, 0, 0, 0, 8, 9000), 9)
	l[10].Jitter = 0
	wantCluster(t, l, upTo(10)...)
	l = jittered(offsets(0, 0, 0, 0, 0, 0, 0, 0, 0, 9, 9000), 9)
	wantCluster(t, l, upTo(9)...)
	// The tenth is so by merit, not by its place.
	l = jittered(l, 10)
	wantCluster(t, l, upTo(10)...)
	l[10].ID = 0
	wantCluster(t, l, upTo(9)...)
}

// P14.2: of several with the greatest select jitter the last one by merit goes, wherever it stands in l.
func TestClusterAlikeJitters(t *testing.T) {
	for _, x := range []struct {
		l    []api.Cand
		left []int
	}{
		{jittered(offsets(0, 10, 0, 10), 8), []int{1, 2, 3}},
		{jittered(offsets(10, 0, 10, 0), 8), []int{1, 2, 3}},
		{jittered(offsets(0, 10, 0, 10), 9), []int{1, 2, 3, 4}},
		{jittered(offsets(10, 0, 0, 0, 10), 8), []int{2, 3, 4}}, // behind the fifth one 10 is the greatest: the first one's
		{jittered(offsets(0, 0, 6, 5), 4), []int{1, 2, 3}},      // the roots of 24 and 17: both are 4
		{jittered(offsets(0, 0, 5, 6), 4), []int{1, 2, 3}},
		{jittered(offsets(0, 0, 6, 5), 5), []int{1, 2, 3, 4}},
		{jittered(offsets(most, least, 0, top), most), []int{1, 2, 4}}, // that of the second and of the third is MaxSpan, that of the others less
		{preferring(jittered(offsets(0, 10, 0, 10), 8), 4), []int{1, 2, 4}},
		{preferring(jittered(offsets(0, 10, 0, 10), 8), 3, 4), []int{1, 3, 4}},
		{preferring(jittered(offsets(0, 10, 0, 10), 8), 1), []int{1, 2, 3}},
	} {
		for range len(x.l) {
			x.l = append(x.l[1:], x.l[0])
			wantCluster(t, x.l, x.left...)
		}
	}
}

// P14.2: one with Prefer never goes; the others do, though it is worse.
func TestClusterPreferred(t *testing.T) {
	// All: there is no worst one.
	for count := range 14 {
		l := preferring(jittered(offsets(make([]api.Span, count)...), least), upTo(count)...)
		for i := range l {
			l[i].Offset = api.Span(i*i) << 30
		}
		wantCluster(t, l, upTo(min(count, 10))...)
	}
	// Some.
	wantCluster(t, offsets(0, 0, 5000, 7000, 9000), 1, 2, 3)
	wantCluster(t, preferring(offsets(0, 0, 5000, 7000, 9000), 5), 3, 4, 5)
	wantCluster(t, preferring(offsets(0, 0, 5000, 7000, 9000), 4, 5), 3, 4, 5)
	wantCluster(t, preferring(offsets(0, 0, 5000, 7000, 9000), 3, 4, 5), 3, 4, 5)
	wantCluster(t, preferring(offsets(0, 0, 5000, 7000, 9000), 2, 3, 4, 5), 2, 3, 4, 5)
	wantCluster(t, preferring(offsets(0, 0, 5000, 7000, 9000), 1, 3, 4, 5), 1, 3, 4, 5)
	wantCluster(t, preferring(offsets(0, 0, 5000, 7000, 9000), 1), 1, 2, 3)
	// The worst one is preferred, and what is the worst of the others is less than the quiet.
	wantCluster(t, preferring(jittered(offsets(0, 0, 0, 100), 58), 4), 1, 2, 3, 4)
	wantCluster(t, preferring(jittered(offsets(0, 0, 0, 100), 57), 4), 1, 2, 4) // theirs is the root of 3333
	// One behind the tenth is not preferred.
	l := jittered(offsets(make([]api.Span, 11)...), 1)
	wantCluster(t, preferring(l, 11), upTo(10)...)
	wantCluster(t, preferring(l, 10), upTo(10)...)
	wantCluster(t, preferring(jittered(l, 0), 11), 1, 2, 3)
	wantCluster(t, preferring(jittered(l, 0), 10), 1, 2, 10)
	wantCluster(t, preferring(jittered(l, 0), 3, 7, 9, 10, 11), 3, 7, 9, 10)
}

// P14.2: a candidate's select jitter is that of its place, though others have its ID.
func TestClusterSameIDs(t *testing.T) {
	l := offsets(0, 1, 2, 1000, 3)
	for i := range l {
		l[i].ID = 7
	}
	check(t, l)
	if got := cluster.Cluster(l); !slices.Equal(got, []api.Cand{l[0], l[1], l[2], l[4]}) {
		t.Errorf("of %v Cluster is %v", l, got)
	}
}

// P14.2: all short lists of a few Offsets and Jitters, with Prefer and without it.
func TestClusterAllShort(t *testing.T) {
	var kinds []api.Cand
	for _, offset := range []api.Span{0, 1, 3} {
		for _, jitter := range []api.Span{1, 2} {
			for _, prefer := range []bool{false, true} {
				kinds = append(kinds, api.Cand{Offset: offset, Jitter: jitter, Prefer: prefer})
			}
		}
	}
	l := make([]api.Cand, 4)
	for n := range 12 * 12 * 12 * 12 {
		for i := range l {
			l[i] = kinds[n%12]
			l[i].ID = i + 1
			n /= 12
		}
		if got, want := cluster.Cluster(l), clusterOf(l); !slices.Equal(got, want) {
			t.Fatalf("of %v Cluster is %v, want %v", l, got, want)
		}
	}
}
