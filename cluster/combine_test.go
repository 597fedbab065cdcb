package cluster_test

import (
	"slices"
	"testing"

	"foliot/api"
	"foliot/cluster"
)

// wantCombine says the answer once more, written out.
func wantCombine(t *testing.T, l []api.Cand, offset, jitter api.Span) {
	t.Helper()
	check(t, l)
	if gotOffset, gotJitter := cluster.Combine(l); gotOffset != offset || gotJitter != jitter {
		t.Errorf("of %v Combine is %v, %v, want %v, %v", l, gotOffset, gotJitter, offset, jitter)
	}
}

// dists has the Dists in turn.
func dists(l []api.Cand, all ...api.Span) []api.Cand {
	l = slices.Clone(l)
	for i, dist := range all {
		l[i].Dist = dist
	}
	return l
}

// P14.3: the chapter's table.
func TestCombineExamples(t *testing.T) {
	wantCombine(t, offsets(100, 100), 100, 10)
	wantCombine(t, dists(offsets(0, 100), 1<<24, 1<<25), 33, 100)
}

// P14.3: of none nothing, of one what it says, uncut; of more each is weighed against the first one.
func TestCombine(t *testing.T) {
	wantCombine(t, nil, 0, 0)
	wantCombine(t, []api.Cand{}, 0, 0)
	for _, offset := range []api.Span{0, 77, -77, most, -most, most + 1, top, least} {
		wantCombine(t, offsets(offset), offset, 10)
	}
	wantCombine(t, offsets(0, 100), 50, 100)
	wantCombine(t, offsets(100, 0), 50, 100)
	wantCombine(t, offsets(0, 30, 60), 30, 47) // the root of 2250
	wantCombine(t, offsets(30, 0, 60), 30, 30)
	wantCombine(t, offsets(-30, 0, -60), -30, 30)
	wantCombine(t, dists(offsets(0, 100), 1<<25, 1<<24), 66, 100)
	wantCombine(t, dists(offsets(100, 0), 1<<24, 1<<25), 66, 100)
	wantCombine(t, dists(offsets(0, 70, 70), 1<<24, 1<<25, 1<<26), 30, 70) // 4, 2 and 1 parts of 7
	wantCombine(t, dists(offsets(70, 0, 0), 1<<24, 1<<25, 1<<26), 40, 70)
}

// P14.3: each part is divided down by itself, below 0 too.
func TestCombineDivided(t *testing.T) {
	wantCombine(t, offsets(0, 1), 0, 10)
	wantCombine(t, offsets(1, 0), 0, 10)
	wantCombine(t, offsets(0, -1), -1, 10)
	wantCombine(t, offsets(0, 2, 2), 0, 10)
	wantCombine(t, offsets(0, 3, 2), 1, 10)
	wantCombine(t, offsets(0, -1, -1), -2, 10)
	wantCombine(t, offsets(5, 4, 4), 3, 10)
	wantCombine(t, offsets(5, 4, 6), 4, 10)
	wantCombine(t, offsets(0, -1, -1, -1), -3, 10)
	wantCombine(t, offsets(slices.Repeat([]api.Span{-1}, 16)...), -1, 10)
	wantCombine(t, offsets(append([]api.Span{0}, slices.Repeat([]api.Span{-1}, 15)...)...), -15, 10)
	wantCombine(t, offsets(append([]api.Span{0}, slices.Repeat([]api.Span{1}, 15)...)...), 0, 10)
}

// P14.3: the weight at the edges of Dist, against one of 2^40 (Dist 0) whose Offset is 0: 2^40 makes it half of 1200.
func TestCombineWeights(t *testing.T) {
	for _, x := range []struct{ dist, offset api.Span }{
		{0, 600}, {1, 600}, {255, 600}, {256, 600}, {257, 600}, {511, 600},
		{-1, 600}, {-255, 600}, {-256, 600}, {-257, 600}, {-1 << 40, 600}, {-most, 600}, {least, 600},
		{512, 400}, {513, 400}, {767, 400},
		{768, 299}, {1023, 299}, // a third of 2^40 is divided down
		{1024, 240},
		{1280, 199},
		{1 << 18, 1}, {1 << 19, 0}, {1 << 30, 0}, {1 << 48, 0}, {top, 0},
	} {
		wantCombine(t, dists(offsets(0, 1200), 0, x.dist), x.offset, 1200)
		wantCombine(t, dists(offsets(0, 1200), 256, x.dist), x.offset, 1200)
		wantCombine(t, dists(offsets(0, 1200), -5, x.dist), x.offset, 1200)
		// The weight is not cut by the Offset, nor by the Stratum.
		wantCombine(t, with(dists(offsets(0, 1200), 0, x.dist), func(c *api.Cand) { c.Stratum = 15 }), x.offset, 1200)
	}
}

// P14.3: so far away a weight is 1, and farther 0; where all are 0 nothing is added.
func TestCombineWeightless(t *testing.T) {
	const one, none = 1<<48 + 255, 1<<48 + 256
	wantCombine(t, dists(offsets(0, 1200), one, one), 600, 1200)
	wantCombine(t, dists(offsets(0, 1200), 1<<48, one), 600, 1200)
	wantCombine(t, dists(offsets(0, 1200), 1<<47, 1<<48), 400, 1200)
	wantCombine(t, dists(offsets(0, 1200), 1<<47+255, 1<<48), 400, 1200)
	wantCombine(t, dists(offsets(0, 1200), 1<<47+256, 1<<48), 600, 1200)
	wantCombine(t, dists(offsets(0, 1200), one, none), 0, 1200)
	wantCombine(t, dists(offsets(0, 1200), none, one), 1200, 1200)
	wantCombine(t, dists(offsets(0, 1200), none, none), 0, 1200)
	wantCombine(t, dists(offsets(7, 1200, -900), top, most, none), 7, 1059) // of 1193 and 907
	wantCombine(t, dists(offsets(-7, 5, 11), none, none, one), 11, 15)
}

// P14.3: of more than 16 the first 16 count, for the offset, for W, and for the select jitter.
func TestCombineMany(t *testing.T) {
	all := append([]api.Span{0}, slices.Repeat([]api.Span{160}, 15)...)
	for count := 2; count <= 16; count++ {
		wantCombine(t, offsets(all[:count]...), api.Span((count-1)*(160/count)), 160)
	}
	for _, more := range [][]api.Span{{160}, {0}, {90000}, {-90000, 90000}, {top}, {least}, slices.Repeat([]api.Span{top}, 84)} {
		wantCombine(t, offsets(append(all, more...)...), 150, 160)
	}
	// Those behind the sixteenth do not count, even where the others have no weight.
	l := dists(offsets(append(all, 160)...), slices.Repeat([]api.Span{top}, 16)...)
	wantCombine(t, l, 0, 160)
	// The first ones are so by their places, not by merit.
	l = offsets(append([]api.Span{90000}, all...)...)
	wantCombine(t, append(l[1:], l[0]), 150, 160)
	l = dists(offsets(append(slices.Repeat([]api.Span{80}, 16), 90000)...), slices.Repeat([]api.Span{1 << 40}, 16)...)
	wantCombine(t, l, 80, 10)
}

// P14.3: the jitter is the greater one of the first one's Jitter and of its select jitter; nobody else's counts.
func TestCombineJitter(t *testing.T) {
	for _, x := range []struct{ jitter, want api.Span }{
		{least, 20}, {-1, 20}, {0, 20}, {19, 20}, {20, 20}, {21, 21}, {5000, 5000}, {most, most}, {top, top},
	} {
		for _, others := range []api.Span{least, 0, 7, top} {
			l := jittered(offsets(0, 20, 20), others)
			l[0].Jitter = x.jitter
			wantCombine(t, l, 12, x.want)
		}
		wantCombine(t, jittered(offsets(9), x.jitter), 9, max(x.jitter, 0))
	}
	// Its own select jitter, not that of the first one with its ID's, nor the greatest.
	l := offsets(0, 40, 40)
	l[1].ID = 1
	wantCombine(t, l, 26, 40)
	wantCombine(t, l[1:], 40, 10)
}

// P14.3: parts are added one by one, in their order, each sum saturated.
func TestCombineFar(t *testing.T) {
	const third = most / 3 // 1537228672809129301 and a rest
	wantCombine(t, offsets(most-1, top, least), most-third-1, most)
	wantCombine(t, offsets(most-1, least, top), most-2, most)
	wantCombine(t, offsets(-most, top, least), -most, most)
	wantCombine(t, offsets(-most, least, top), third-most, most)
	// A difference comes to its bound ahead of its weighing.
	wantCombine(t, offsets(most, -most), most/2, most)
	wantCombine(t, offsets(-most, most), -most/2, most)
	wantCombine(t, offsets(top, least), most, most)
	wantCombine(t, offsets(least, top), -most, most)
	// What is not added to is uncut; what nothing is added to is cut.
	wantCombine(t, offsets(top, top), most, 10)
	wantCombine(t, dists(offsets(least, 0), 0, top), -most, most)
}

// P14.3: what else candidates say makes no difference.
func TestCombineFieldsAlone(t *testing.T) {
	r := drawer(2)
	for range 500 {
		l := drawNear(r, 1+r.IntN(20), true)
		offset, jitter := cluster.Combine(l)
		bare := with(l, func(c *api.Cand) { *c = api.Cand{Offset: c.Offset, Dist: c.Dist, Jitter: least} })
		bare[0].Jitter = l[0].Jitter
		wantCombine(t, bare, offset, jitter)
	}
}
