package choose_test

import (
	"math"
	"slices"
	"testing"

	"foliot/api"
	"foliot/choose"
)

// P13.4: a middle just at a point survives, one beside it does not, by whole units.
func TestSurvivorsAtPoints(t *testing.T) {
	// Three make the points -2 and 2; the fourth one lies far enough around them to change nothing.
	for _, x := range []struct {
		offset api.Span
		stays  bool
	}{
		{-9 * u, false},
		{-3 * u, false},
		{-2*u - 1, false},
		{-2 * u, true},
		{-2*u + 1, true},
		{0, true},
		{2*u - 1, true},
		{2 * u, true},
		{2*u + 1, true}, // its middle is divided down, to the point
		{3*u - 1, true},
		{3 * u, false},
		{9 * u, false},
	} {
		l := append(listOf(0, 2*u, 0, 2*u, 0, 2*u), api.Cand{ID: 4, Offset: x.offset, Dist: 30 * u})
		if x.stays {
			wantMeet(t, l, -2*u, 2*u, 1, 2, 3, 4)
		} else {
			wantMeet(t, l, -2*u, 2*u, 1, 2, 3)
		}
	}
}

// P13.4: whose middle lies between the points survives, though what it holds is neither of them, or one alone.
func TestSurvivorsNarrow(t *testing.T) {
	wantMeet(t, listOf(0, 9*u, 0, 9*u, 0, 9*u, 5*u, 0), -9*u, 9*u, 1, 2, 3, 4)
	wantMeet(t, listOf(0, 9*u, 0, 9*u, 0, 9*u, 5*u, 0, -5*u, u), -6*u, 5*u, 1, 2, 3, 4, 5)
}

// P13.4: those that survive are told whole and in l's order, whatever their IDs are, as often as they stand there.
func TestSurvivorsWhole(t *testing.T) {
	one := api.Cand{ID: 9, Offset: u, Dist: 3 * u, Jitter: -4, Stratum: 77, Prefer: true, Pulse: true}
	two := api.Cand{ID: -3, Offset: 0, Dist: 3 * u, Jitter: math.MaxInt64, Stratum: -1}
	far := api.Cand{ID: 1, Offset: 99 * u, Dist: u, Prefer: true}
	for _, l := range [][]api.Cand{{one, two, far}, {far, one, two}, {two, far, one}, {two, one, far}, {far, two, two, one}, {one, one, one, far, far}} {
		check(t, l)
		want := slices.DeleteFunc(slices.Clone(l), func(c api.Cand) bool { return c == far })
		if got := choose.Survivors(l); !slices.Equal(got, want) {
			t.Errorf("of %v Survivors are %v", l, got)
		}
	}
}

// P13.4: one that does not count, or comes behind the 64th that does, does not survive, though its offset lies between the points.
func TestSurvivorsCount(t *testing.T) {
	wantMeet(t, append(listOf(0, u, 0, u), api.Cand{ID: 3, Dist: -1}, api.Cand{ID: 4, Dist: farDist + 1}), -u, u, 1, 2)
	for _, count := range []int{63, 64, 65, 66, 200} {
		l := alike(1, count, 0, u)
		wantMeet(t, l, -u, u, upTo(min(count, 64))...)
		wantMeet(t, between(l), -u, u, upTo(min(count, 64))...)
		wantMeet(t, append(useless(), l...), -u, u, upTo(min(count, 64))...)
	}
	// The one that is wrong is one of the 64.
	l := append(alike(65, 1, 50*u, u), alike(1, 64, 0, u)...)
	wantMeet(t, l, -u, u, upTo(63)...)
	wantNone(t, useless())
}

// What does not count changes nothing, wherever it stands.
func TestUselessChangesNothing(t *testing.T) {
	r := drawer(4)
	bad := useless()
	for range 3000 {
		l := drawNear(r, 20)
		mixed := slices.Clone(l)
		for range r.IntN(90) {
			mixed = slices.Insert(mixed, r.IntN(len(mixed)+1), bad[r.IntN(len(bad))])
		}
		check(t, mixed)
		low, high, found := choose.Meet(l)
		mixedLow, mixedHigh, mixedFound := choose.Meet(mixed)
		if low != mixedLow || high != mixedHigh || found != mixedFound {
			t.Fatalf("Meet of %v and of %v are not the same", l, mixed)
		}
		if !slices.Equal(choose.Ends(l), choose.Ends(mixed)) || !slices.Equal(choose.Survivors(l), choose.Survivors(mixed)) {
			t.Fatalf("Ends or Survivors of %v and of %v are not the same", l, mixed)
		}
	}
}

// The order of l changes the order of Survivors alone.
func TestOrderChangesNothing(t *testing.T) {
	r := drawer(5)
	survived := 0
	for range 3000 {
		l := drawNear(r, 64)
		ends, told := choose.Ends(l), choose.Survivors(l)
		low, high, found := choose.Meet(l)
		survived += len(told)
		r.Shuffle(len(l), func(i, j int) { l[i], l[j] = l[j], l[i] })
		if !slices.Equal(choose.Ends(l), ends) {
			t.Fatalf("Ends of %v hang on its order", l)
		}
		if a, b, is := choose.Meet(l); a != low || b != high || is != found {
			t.Fatalf("Meet of %v hangs on its order", l)
		}
		want := slices.DeleteFunc(slices.Clone(l), func(c api.Cand) bool { return !slices.Contains(told, c) })
		if got := choose.Survivors(l); !slices.Equal(got, want) {
			t.Fatalf("Survivors of %v are %v, want %v", l, got, want)
		}
	}
	if survived < 1000 {
		t.Errorf("only %v survived", survived)
	}
}

// What a candidate says beside Offset and Dist changes nothing.
func TestOtherFieldsChangeNothing(t *testing.T) {
	r := drawer(6)
	for range 2000 {
		l := drawNear(r, 20)
		bare := idsOf(choose.Survivors(l))
		ends := choose.Ends(l)
		for i := range l {
			l[i].Jitter, l[i].Stratum = drawSpan(r, 62), r.IntN(40)-10
			l[i].Prefer, l[i].Pulse = r.IntN(2) == 0, r.IntN(2) == 0
		}
		check(t, l)
		if !slices.Equal(choose.Ends(l), ends) || !slices.Equal(idsOf(choose.Survivors(l)), bare) {
			t.Fatalf("of %v other fields count", l)
		}
	}
}
