package choose_test

import (
	"math"
	"slices"
	"testing"

	"foliot/api"
	"foliot/choose"
)

// wantEnds says the ends once more, written out: places and kinds.
func wantEnds(t *testing.T, l []api.Cand, want ...complex128) {
	t.Helper()
	check(t, l)
	if got := choose.Ends(l); !slices.Equal(got, want) {
		t.Errorf("of %v Ends are %v, want %v", l, got, want)
	}
}

// P13.2: low ends and middles are divided down, high ends up, below 0 and above it.
func TestEndsDivided(t *testing.T) {
	for _, x := range []struct {
		offset, dist      api.Span
		low, middle, high float64
	}{
		{0, 0, 0, 0, 0},
		{5 * u, 2 * u, 3, 5, 7},
		{-5 * u, 2 * u, -7, -5, -3},
		{u + 1, u, 0, 1, 3},
		{1, 0, 0, 0, 1},
		{-1, 0, -1, -1, 0},
		{u - 1, 0, 0, 0, 1},
		{u, 0, 1, 1, 1},
		{1 - u, 0, -1, -1, 0},
		{-u, 0, -1, -1, -1},
		{-u - 1, 0, -2, -2, -1},
		{0, 1, -1, 0, 1},
		{0, u - 1, -1, 0, 1},
		{0, u, -1, 0, 1},
		{0, u + 1, -2, 0, 2},
		{1, 1, 0, 0, 1},
		{-1, 1, -1, -1, 0},
		{u / 2, u / 2, 0, 0, 1},
		{-u / 2, u / 2, -1, -1, 0},
		{u/2 + 1, u / 2, 0, 0, 2},
		{-u/2 - 1, u / 2, -2, -1, 0},
		{10*u + 7, 3*u + 7, 7, 10, 14},
		{10*u + 7, 3*u + 8, 6, 10, 14},
		{10*u - 7, 3*u + 7, 6, 9, 13},
		{10*u - 7, 3*u + 8, 6, 9, 14},
		{-10*u + 7, 3*u + 7, -13, -10, -6},
		{-10*u - 7, 3*u + 7, -14, -11, -7},
		{-10*u - 7, 3*u + 8, -14, -11, -6},
	} {
		wantEnds(t, listOf(x.offset, x.dist), complex(x.low, -1), complex(x.middle, 0), complex(x.high, 1))
	}
}

// P13.2: at the edges of what counts places are exact.
func TestEndsFar(t *testing.T) {
	const a, b = 1 << 44, 1 << 36
	wantEnds(t, listOf(farOffset, farDist), complex(a-b, -1), complex(a, 0), complex(a+b, 1))
	wantEnds(t, listOf(-farOffset, farDist), complex(-a-b, -1), complex(-a, 0), complex(b-a, 1))
	wantEnds(t, listOf(farOffset, 0), complex(a, -1), complex(a, 0), complex(a, 1))
	wantEnds(t, listOf(-farOffset, 0), complex(-a, -1), complex(-a, 0), complex(-a, 1))
	wantEnds(t, listOf(farOffset-1, 0), complex(a-1, -1), complex(a-1, 0), complex(a, 1))
	wantEnds(t, listOf(1-farOffset, 0), complex(-a, -1), complex(-a, 0), complex(1-a, 1))
	wantEnds(t, listOf(farOffset-1, farDist), complex(a-b-1, -1), complex(a-1, 0), complex(a+b, 1))
	wantEnds(t, listOf(farOffset, farDist-1), complex(a-b, -1), complex(a, 0), complex(a+b, 1))
	wantEnds(t, listOf(1-farOffset, farDist), complex(-a-b, -1), complex(-a, 0), complex(b-a+1, 1))
	wantEnds(t, listOf(0, farDist), complex(-b, -1), 0, complex(b, 1))
}

// P13.2: by rising places; of one place low, middle, high, of whichever candidates they are.
func TestEndsOrder(t *testing.T) {
	wantEnds(t, nil)
	wantEnds(t, []api.Cand{})
	wantEnds(t, listOf(9*u, u, 0, 2*u, u, 2*u),
		complex(-2, -1), complex(-1, -1), 0, 1, complex(2, 1), complex(3, 1), complex(8, -1), 9, complex(10, 1))
	// The place 5 is the high end of the first one, the middle of the second, the low end of the third, all of the fourth.
	wantEnds(t, listOf(3*u, 2*u, 5*u, u, 7*u, 2*u, 5*u, 0),
		complex(1, -1), 3, complex(4, -1), complex(5, -1), complex(5, -1), 5, 5, complex(5, 1), complex(5, 1), complex(6, 1), 7, complex(9, 1))
	// One place of all by the divisions alone.
	wantEnds(t, listOf(-1, 0, 1, 0),
		complex(-1, -1), -1, complex(0, -1), 0, complex(0, 1), complex(1, 1))
	// Places are held against each other as numbers, below 0 too.
	wantEnds(t, listOf(-2*u, 0, 10*u, 0, -10*u, 0, 2*u, 0),
		complex(-10, -1), -10, complex(-10, 1), complex(-2, -1), -2, complex(-2, 1),
		complex(2, -1), 2, complex(2, 1), complex(10, -1), 10, complex(10, 1))
}

// P13.2: ends that are alike are told as often as there are.
func TestEndsAlike(t *testing.T) {
	for count := 1; count <= 64; count++ {
		var want []complex128
		for _, e := range []complex128{complex(2, -1), 3, complex(4, 1)} {
			want = append(want, slices.Repeat([]complex128{e}, count)...)
		}
		wantEnds(t, alike(1, count, 3*u, u), want...)
	}
	wantEnds(t, listOf(u, 0, u, 0), complex(1, -1), complex(1, -1), 1, 1, complex(1, 1), complex(1, 1))
}

// P13.2: an end's place or kind of 0 is the 0 without a sign.
func TestEndsSigns(t *testing.T) {
	small(func(l []api.Cand) {
		for _, e := range choose.Ends(l) {
			if math.Signbit(real(e)) != (real(e) < 0) || math.Signbit(imag(e)) != (imag(e) < 0) {
				t.Fatalf("of %v there is an end %v", l, e)
			}
		}
	})
}

// Who counts: each bound of Dist and Offset, just so and one beside it; the Stratum and all else make no difference.
func TestEndsCount(t *testing.T) {
	for _, x := range []struct {
		c    api.Cand
		want int
	}{
		{api.Cand{Dist: -1}, 0},
		{api.Cand{Dist: 0}, 3},
		{api.Cand{Dist: 1 << 52}, 3},
		{api.Cand{Dist: 1<<52 + 1}, 0},
		{api.Cand{Offset: -1<<60 - 1}, 0},
		{api.Cand{Offset: -1 << 60}, 3},
		{api.Cand{Offset: 1 << 60}, 3},
		{api.Cand{Offset: 1<<60 + 1}, 0},
		{api.Cand{Stratum: -1}, 3},
		{api.Cand{Stratum: 16}, 3},
		{api.Cand{Stratum: math.MaxInt, ID: math.MinInt, Jitter: math.MinInt64, Prefer: true, Pulse: true}, 3},
	} {
		check(t, []api.Cand{x.c})
		if got := len(choose.Ends([]api.Cand{x.c})); got != x.want {
			t.Errorf("%+v has %v ends, want %v", x.c, got, x.want)
		}
	}
	wantEnds(t, useless())
}

// Of a list only the first 64 that count do, whoever stands between them.
func TestEndsFirst(t *testing.T) {
	for _, count := range []int{62, 63, 64, 65, 66, 100, 1000} {
		var l []api.Cand
		for i := range count {
			l = append(l, api.Cand{ID: i + 1, Offset: api.Span(i) * u})
		}
		var want []complex128
		for i := range min(count, 64) {
			want = append(want, complex(float64(i), -1), complex(float64(i), 0), complex(float64(i), 1))
		}
		wantEnds(t, l, want...)
		wantEnds(t, between(l), want...)
		wantEnds(t, append(useless(), l...), want...)
		// The other way round it is the other ones.
		slices.Reverse(l)
		if got := choose.Ends(l); len(got) != len(want) || real(got[0]) != float64(max(count-64, 0)) {
			t.Errorf("of %v the other way round there are %v ends from %v on", count, len(got), got[0])
		}
	}
}
