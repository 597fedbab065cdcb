package cluster_test

import (
	"slices"
	"testing"

	"foliot/api"
	"foliot/cluster"
)

const near = api.Span(1) << 30 // N's Offset at most, so that a pulse counts

// wantMitigate says the answer once more, written out.
func wantMitigate(t *testing.T, l []api.Cand, was int, want cluster.Result) {
	t.Helper()
	check(t, l)
	checkID(t, l, clusterOf(l), was)
	if got := cluster.Mitigate(l, was); got != want {
		t.Errorf("of %v Mitigate with %v is %v, want %v", l, was, got, want)
	}
}

// told is a result without a pulse.
func told(peer int, offset, jitter api.Span) cluster.Result {
	return cluster.Result{Peer: peer, Offset: offset, Jitter: jitter, OK: true}
}

// ticked is a result by a pulse.
func ticked(peer int, offset, jitter api.Span) cluster.Result {
	return cluster.Result{Peer: peer, Offset: offset, Jitter: jitter, OK: true, Pulse: true}
}

// P14.5: the chapter's table.
func TestMitigateExamples(t *testing.T) {
	wantMitigate(t, nil, 0, cluster.Result{})
	wantMitigate(t, pulsing(offsets(0), 1), 0, cluster.Result{})
	wantMitigate(t, pulsing(dists(offsets(50, 7), near), 2), 0, ticked(2, 7, 10))
}

// P14.5: without N there is nothing: pulses alone do not tell which second it is.
func TestMitigateNone(t *testing.T) {
	for _, was := range []int{0, 1, 2, -1, int(top)} {
		wantMitigate(t, []api.Cand{}, was, cluster.Result{})
		for count := 1; count <= 12; count++ {
			l := pulsing(jittered(offsets(make([]api.Span, count)...), 5), upTo(count)...)
			wantMitigate(t, l, was, cluster.Result{})
			wantMitigate(t, preferring(l, 1, 2), was, cluster.Result{})
		}
		// The only one that is no pulse went, or stands behind the tenth.
		wantMitigate(t, pulsing(offsets(0, 0, 0, 90000), 1, 2, 3), was, cluster.Result{})
		wantMitigate(t, pulsing(jittered(offsets(make([]api.Span, 11)...), 5), upTo(10)...), was, cluster.Result{})
	}
	wantMitigate(t, pulsing(preferring(offsets(0, 0, 0, 9000), 4), 1, 2, 3), 0, ticked(1, 0, 10))
}

// P14.5: a pulse counts just where N's Offset is near.
func TestMitigateNear(t *testing.T) {
	for _, x := range []struct {
		offset api.Span
		counts bool
	}{
		{least, false}, {-most, false}, {-api.Second, false}, {-near - 1, false}, {-near, true}, {1 - near, true},
		{0, true}, {near - 1, true}, {near, true}, {near + 1, false}, {api.Second, false}, {most, false}, {top, false},
	} {
		for _, pulse := range []api.Span{0, 7, -near - 1, near + 1, least, top} { // the pulse's own Offset counts not
			l := jittered(pulsing(offsets(x.offset, pulse), 2), 30)
			l[1].Jitter = 4
			for range 2 {
				slices.Reverse(l)
				for _, was := range []int{0, 1, 2} {
					if x.counts {
						wantMitigate(t, l, was, ticked(2, pulse, 4))
						wantMitigate(t, preferring(l, 1), was, ticked(2, pulse, 4))
					} else {
						wantMitigate(t, l, was, told(1, x.offset, 30))
						wantMitigate(t, preferring(l, 1), was, told(1, x.offset, 30))
					}
				}
			}
		}
	}
}

// P14.5: it is N's Offset that must be near, not the first one's, nor what is combined.
func TestMitigateNearOfN(t *testing.T) {
	l := pulsing(offsets(0, near+1, 7), 3)
	wantMitigate(t, l, 0, ticked(3, 7, 10))
	wantMitigate(t, l, 2, told(2, near/2, near+1)) // near + 1 and half of its negative, divided down
	wantMitigate(t, preferring(l, 2), 1, told(2, near+1, 10))
	wantMitigate(t, preferring(l, 1, 2), 2, ticked(3, 7, 10))
	l = pulsing(offsets(near+1, 0, 7), 3)
	wantMitigate(t, l, 0, told(1, near/2, near+1))
	wantMitigate(t, l, 2, ticked(3, 7, 10))
	wantMitigate(t, preferring(l, 2), 1, ticked(3, 7, 10))
}

// P14.5: of several pulses the first by merit counts, of those that clustering left.
func TestMitigatePulses(t *testing.T) {
	l := jittered(pulsing(offsets(1, 2, 3, 4, 5), 2, 3, 5), 100)
	for range l {
		l = append(l[1:], l[0])
		wantMitigate(t, l, 0, ticked(2, 2, 100))
		wantMitigate(t, preferring(l, 3), 5, ticked(2, 2, 100)) // that a pulse has Prefer makes no difference
	}
	l[slices.IndexFunc(l, func(c api.Cand) bool { return c.ID == 5 })].Dist = 1
	wantMitigate(t, l, 0, ticked(5, 5, 100))
	// The one that stood first went.
	l = pulsing(offsets(90000, 1, 2, 3, 4), 1, 3, 5)
	wantMitigate(t, l, 0, ticked(3, 2, 10))
	wantMitigate(t, pulsing(offsets(90000, 1, 2, 3), 1), 0, told(2, 1, 10))
	// One behind the tenth does not count.
	wantMitigate(t, pulsing(jittered(offsets(make([]api.Span, 11)...), 5), 11), 0, told(1, 0, 5))
	wantMitigate(t, pulsing(jittered(offsets(make([]api.Span, 11)...), 5), 10), 0, ticked(10, 0, 5))
}

// P14.5: N with Prefer says all by itself, unless a pulse counts.
func TestMitigatePreferred(t *testing.T) {
	l := offsets(0, 400, 500)
	for _, was := range []int{0, 1, 2, 3} {
		wantMitigate(t, preferring(l, 3), was, told(3, 500, 10))
		wantMitigate(t, preferring(l, 2), was, told(2, 400, 10))
		wantMitigate(t, preferring(l, 2, 3), was, told(2, 400, 10))
		wantMitigate(t, preferring(l, 1, 2, 3), was, told(1, 0, 10))
		wantMitigate(t, pulsing(preferring(l, 3), 1), was, ticked(1, 0, 10))
		// The first one with Prefer is a pulse, so it is not N.
		wantMitigate(t, pulsing(preferring(offsets(near+1, near+401, 500), 3), 3), was, []cluster.Result{
			told(1, near+201, 400), told(1, near+201, 400), told(2, near+201, 400), told(1, near+201, 400),
		}[was])
		wantMitigate(t, pulsing(preferring(offsets(near+1, near+401, 500), 3, 2), 3), was, told(2, near+401, 10))
	}
	// Any Jitter is told, and one of a worse Stratum is N as well.
	l = preferring(jittered(l, least), 3)
	l[2].Stratum = 9
	wantMitigate(t, l, 1, told(3, 500, least))
	// Of the first by merit, not by the list.
	slices.Reverse(l)
	wantMitigate(t, preferring(l, 2), 1, told(2, 400, least))
	// Behind the tenth it counts no more.
	wantMitigate(t, preferring(jittered(offsets(make([]api.Span, 11)...), 5), 11), 0, told(1, 0, 5))
}

// P14.5: else what R says is combined, N ahead of the others, these by merit.
func TestMitigateCombined(t *testing.T) {
	wantMitigate(t, offsets(77), 0, told(1, 77, 10))
	wantMitigate(t, offsets(77), 1, told(1, 77, 10))
	wantMitigate(t, offsets(top), 1, told(1, top, 10))
	l := offsets(0, 100, 201)
	wantMitigate(t, l, 0, told(1, 100, 158)) // 33 and 67 are added; the root of 25200
	wantMitigate(t, l, 1, told(1, 100, 158))
	wantMitigate(t, l, 2, told(2, 99, 100))  // 33 is added, 34 taken; the root of 10100
	wantMitigate(t, l, 3, told(3, 100, 159)) // 67 and 34 are taken; the root of 25301
	slices.Reverse(l)
	wantMitigate(t, l, 9, told(1, 100, 158))
	wantMitigate(t, l, 2, told(2, 99, 100))
	// One of another Stratum is not N.
	l = offsets(0, 100, 201)
	l[1].Stratum = 0
	wantMitigate(t, l, 3, told(2, 99, 100))
	wantMitigate(t, l, 2, told(2, 99, 100))
	// What went is not combined; nor is it N.
	l = offsets(0, 0, 0, 90000)
	wantMitigate(t, l, 0, told(1, 0, 10))
	wantMitigate(t, l, 4, told(1, 0, 10))
	// Nor is a pulse that does not count.
	l = pulsing(offsets(near+1, near+101, 5), 3)
	wantMitigate(t, l, 0, told(1, near+51, 100))
	wantMitigate(t, l, 3, told(1, near+51, 100))
	// The first one's Stratum is that of R, not of S.
	l = pulsing(offsets(5, near+1, near+101), 1)
	l[0].Stratum = 0
	wantMitigate(t, l, 3, told(3, near+51, 100))
	wantMitigate(t, l, 1, told(2, near+51, 100))
}

// P14.5: the others are added by merit, though N does not stand first: sums that saturate tell.
func TestMitigateOrder(t *testing.T) {
	const third = most / 3
	for _, x := range []struct {
		l      []api.Cand
		was    int
		offset api.Span
	}{
		{offsets(most-1, top, least), 1, most - third - 1},
		{offsets(most-1, least, top), 1, most - 2},
		{offsets(top, most-1, least), 2, most - third - 1},
		{offsets(least, most-1, top), 2, most - 2},
		{offsets(top, least, most-1), 3, most - third - 1},
		{offsets(least, top, most-1), 3, most - 2},
	} {
		for range 3 {
			x.l = append(x.l[1:], x.l[0])
			wantMitigate(t, x.l, x.was, told(x.was, x.offset, most))
		}
	}
}

// P14.5: of several of one ID in R each but N's own place is another one.
func TestMitigateSame(t *testing.T) {
	l := numbered(offsets(0, 100, 201), 5, 5, 5)
	wantMitigate(t, l, 5, told(5, 100, 158))
	wantMitigate(t, l, 0, told(5, 100, 158))
	l = numbered(offsets(0, 100, 201), 1, 5, 5)
	wantMitigate(t, l, 5, told(5, 99, 100))
	slices.Reverse(l) // now the one with 201 is ahead
	wantMitigate(t, l, 5, told(5, 100, 159))
	// Alike in all: each says its part.
	l = append(offsets(0), offsets(90, 90)...)
	l[1].ID, l[2].ID = 5, 5
	wantMitigate(t, l, 5, told(5, 60, 63)) // the root of 4050
	wantMitigate(t, l, 1, told(1, 60, 90))
	// The first one with that ID is a pulse, so it is not N.
	l = pulsing(numbered(offsets(near+1, near+101, near+201), 1, 2, 5), 2)
	l[1].ID = 5
	wantMitigate(t, l, 5, told(5, near+101, 200))
}
