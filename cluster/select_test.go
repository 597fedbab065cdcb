package cluster_test

import (
	"slices"
	"testing"

	"foliot/api"
	"foliot/cluster"
)

// wantSelect says the answer once more, written out.
func wantSelect(t *testing.T, l []api.Cand, id int, want api.Span) {
	t.Helper()
	check(t, l)
	if got := cluster.Select(l, id); got != want {
		t.Errorf("of %v Select of %v is %v, want %v", l, id, got, want)
	}
}

// P14.1: the chapter's table.
func TestSelectExamples(t *testing.T) {
	wantSelect(t, offsets(0, 3, 4), 1, 3)
	wantSelect(t, offsets(0, 3, 4), 9, 0)
}

// P14.1: ordinary ones; each against all others, divided down, rooted down.
func TestSelect(t *testing.T) {
	wantSelect(t, nil, 1, 0)
	wantSelect(t, nil, 0, 0)
	wantSelect(t, offsets(77), 1, 0)
	wantSelect(t, offsets(77), 2, 0)
	wantSelect(t, offsets(77, 70), 1, 7)
	wantSelect(t, offsets(77, 70), 2, 7)
	wantSelect(t, offsets(-77, 70), 2, 147)
	wantSelect(t, offsets(0, 3, 4), 2, 2) // the root of 5
	wantSelect(t, offsets(0, 3, 4), 3, 2) // the root of 8, as 17 is divided down
	wantSelect(t, offsets(5, 5, 5), 2, 0)
	wantSelect(t, offsets(5, 5, 6), 1, 0) // the root of 0, as 1 is divided down
	wantSelect(t, offsets(5, 5, 6), 3, 1)
	wantSelect(t, offsets(10, 0, 0, 0), 1, 10)
	wantSelect(t, offsets(10, 0, 0, 0), 2, 5) // the root of 33
}

// P14.1: of several with that ID the first one; the others with it are others.
func TestSelectSame(t *testing.T) {
	l := offsets(0, 100, 110, 150)
	l[1].ID, l[2].ID, l[3].ID = 5, 5, 5
	wantSelect(t, l[1:], 5, 36) // of 10 and 50: the root of 1300
	wantSelect(t, l, 5, 64)     // of 100, 10 and 50: the root of 4200
	wantSelect(t, l, 1, 121)    // of 100, 110 and 150
	slices.Reverse(l)
	wantSelect(t, l, 5, 94) // of 40, 50 and 150: the root of 8866
	// What is alike is no less another one.
	same := slices.Repeat(offsets(8), 3)
	wantSelect(t, append(same, offsets(14)...), 1, 3) // of 0, 0 and 6: the root of 12
}

// P14.1: any numbers are IDs.
func TestSelectAnyID(t *testing.T) {
	l := offsets(0, 7)
	for _, id := range []int{0, -1, int(least), int(top)} {
		l[1].ID = id
		wantSelect(t, l, id, 7)
	}
}

// P14.1: Offsets so far apart that their difference comes to its bound.
func TestSelectFar(t *testing.T) {
	wantSelect(t, offsets(most, 0), 1, most)
	wantSelect(t, offsets(most, 0), 2, most)
	wantSelect(t, offsets(most, -1), 1, most)
	wantSelect(t, offsets(most-1, -1), 1, most)
	wantSelect(t, offsets(most-1, 0), 1, most-1)
	wantSelect(t, offsets(most, -most), 1, most)
	wantSelect(t, offsets(top, least), 1, most)
	wantSelect(t, offsets(top, least), 2, most)
	wantSelect(t, offsets(least, 0, 0), 1, most)
	wantSelect(t, offsets(0, most, least, top), 1, most)
	wantSelect(t, offsets(top, top-5), 1, 5)
	wantSelect(t, offsets(least, least+5, least), 2, 5)
}

// P14.1: by fixed.RMS only the first 64 others count, in the order in which they stand.
func TestSelectMany(t *testing.T) {
	l := offsets(slices.Repeat([]api.Span{0}, 70)...)
	l[0].Offset = 9
	l[65].Offset = 1000
	wantSelect(t, l, 1, 9)       // the 66th is its 65th other one
	wantSelect(t, l, 2, 1)       // as that of the second: the root of 81 / 64
	wantSelect(t, l, 65, 1)      // and of whoever stands ahead of it
	wantSelect(t, l, 67, 1)      // or behind it
	wantSelect(t, l, 66, 999)    // its others are 9 and 63 times 0
	wantSelect(t, l[1:], 2, 125) // it is the 64th other one: the root of 1000 * 1000 / 64
	wantSelect(t, l[1:], 65, 125)
	wantSelect(t, l[1:], 67, 0) // here the 65th one
	wantSelect(t, l[1:], 66, 1000)
	wantSelect(t, l[1:65], 65, 0)
}

// P14.1: what else a candidate says makes no difference.
func TestSelectOffsetsAlone(t *testing.T) {
	r := drawer(1)
	for range 500 {
		l := drawNear(r, 1+r.IntN(12), true)
		bare := with(l, func(c *api.Cand) { *c = api.Cand{ID: c.ID, Offset: c.Offset} })
		for _, id := range idsAsked(l) {
			if got, want := cluster.Select(l, id), cluster.Select(bare, id); got != want {
				t.Fatalf("of %v Select of %v is %v, of their Offsets alone %v", l, id, got, want)
			}
		}
	}
}
