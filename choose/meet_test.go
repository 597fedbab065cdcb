package choose_test

import (
	"slices"
	"testing"

	"foliot/api"
	"foliot/choose"
)

// P13.3, P13.4: the chapter's table.
func TestMeetExamples(t *testing.T) {
	wantNone(t, nil)
	wantMeet(t, listOf(5*u, 2*u), 3*u, 7*u, 1)
	wantMeet(t, listOf(0, 2*u, u, 2*u, 9*u, u), -u, 2*u, 1, 2)
	wantNone(t, listOf(0, u, 9*u, u))
	wantMeet(t, listOf(0, 3*u, 2*u, 3*u, 2*u, 3*u), -u, 3*u, 1, 2, 3)
}

// P13.3: one candidate meets itself, however far it is.
func TestMeetOne(t *testing.T) {
	wantMeet(t, listOf(0, 0), 0, 0, 1)
	wantMeet(t, listOf(-3*u, 0), -3*u, -3*u, 1)
	wantMeet(t, listOf(1, 0), 0, u, 1)
	wantMeet(t, listOf(-1, 0), -u, 0, 1)
	wantMeet(t, listOf(0, 1), -u, u, 1)
	wantMeet(t, listOf(-u-1, u+2), -3*u, u, 1)
	wantMeet(t, listOf(farOffset, farDist), farOffset-farDist, farOffset+farDist, 1)
	wantMeet(t, listOf(-farOffset, farDist), -farOffset-farDist, farDist-farOffset, 1)
}

// P13.3: of two both must meet, with both middles between the points.
func TestMeetTwo(t *testing.T) {
	wantMeet(t, listOf(0, 0, 0, 0), 0, 0, 1, 2)
	wantMeet(t, listOf(0, 2*u, u, 2*u), -u, 2*u, 1, 2)
	wantMeet(t, listOf(0, 2*u, 2*u, 2*u), 0, 2*u, 1, 2)
	wantMeet(t, listOf(0, 2*u, 2*u, 3*u), -u, 2*u, 1, 2)
	// They meet, but a middle lies outside: below, above, or both.
	wantNone(t, listOf(0, 3*u, 3*u, 2*u))
	wantNone(t, listOf(0, 2*u, 3*u, 3*u))
	wantNone(t, listOf(0, 2*u, 3*u, 2*u))
	// They meet at one place alone, and beside it not at all.
	wantNone(t, listOf(0, 2*u, 4*u, 2*u))
	wantNone(t, listOf(0, 2*u, 5*u, 2*u))
	wantMeet(t, listOf(0, 0, 0, 5*u), 0, 0, 1, 2)
	wantNone(t, listOf(0, 0, 5*u, 5*u))
	wantNone(t, listOf(0, 0, u, 0))
	// A part of a unit makes one place of what meets nowhere.
	wantMeet(t, listOf(5, 0, 6, 0), 0, u, 1, 2)
	wantNone(t, listOf(-1, 0, 0, 0))
	wantNone(t, listOf(u-1, 0, u, 0))
}

// P13.3: f is 0 as long as all meet and no middle lies outside.
func TestMeetAll(t *testing.T) {
	wantMeet(t, listOf(0, 4*u, u, 4*u, 2*u, 4*u), -2*u, 4*u, 1, 2, 3)
	wantMeet(t, listOf(0, 9*u, 0, u, 0, 5*u, 0, 2*u), -u, u, 1, 2, 3, 4)
	for count := 1; count <= 64; count++ {
		wantMeet(t, alike(1, count, 7*u, 2*u), 5*u, 9*u, upTo(count)...)
		wantMeet(t, alike(1, count, 7*u, 0), 7*u, 7*u, upTo(count)...)
	}
}

// P13.3: f fails, as more than f middles lie outside; with the next one the points are further apart.
func TestMeetMiddlesOutside(t *testing.T) {
	// All hold 1 to 3, but two middles lie outside of it: with one wrong it is -1 to 5.
	wantMeet(t, listOf(0, 3*u, 4*u, 3*u, 2*u, 3*u), -u, 5*u, 1, 2, 3)
	// All hold 2 to 3, one middle is below: with one wrong it is 1 to 4.
	wantMeet(t, listOf(0, 3*u, 3*u, u, 3*u, 2*u), u, 4*u, 2, 3)
	// And one above.
	wantMeet(t, listOf(0, 3*u, -3*u, u, -3*u, 2*u), -4*u, -u, 2, 3)
	// One is wrong by f = 1, and one middle may lie outside, either way.
	wantMeet(t, listOf(0, u, 0, u, 9*u, u), -u, u, 1, 2)
	wantMeet(t, listOf(0, u, 0, u, -9*u, u), -u, u, 1, 2)
	// Two of three hold 1 to 2, but their middles and the third one's lie outside.
	wantNone(t, listOf(0, 2*u, 3*u, 2*u, 9*u, u))
	// One of these middles and the third one's: two, one below and one above.
	wantNone(t, listOf(0, 3*u, 3*u, 2*u, 9*u, u))
	// Two below, none above; and the other way round.
	wantNone(t, listOf(0, 3*u, 3*u, 2*u, -9*u, u))
	wantNone(t, listOf(0, 3*u, -3*u, 2*u, 9*u, u))
	// None of the two outside: the third one's alone.
	wantMeet(t, listOf(0, 3*u, 2*u, 2*u, 9*u, u), 0, 3*u, 1, 2)
}

// P13.3: the first f that does not fail counts, though a later one would have told other points.
func TestMeetFirst(t *testing.T) {
	wantMeet(t, listOf(0, 2*u, 0, 5*u, 0, 9*u), -2*u, 2*u, 1, 2, 3)
	wantMeet(t, listOf(0, 2*u, 0, 5*u, 0, 9*u, 0, 12*u, 40*u, u), -2*u, 2*u, 1, 2, 3, 4)
}

// P13.3: so many are wrong, as few of them as may be told so, each elsewhere.
func TestMeetWrong(t *testing.T) {
	for right := 1; right <= 40; right++ {
		for wrong := 0; right+wrong <= 64; wrong++ {
			l := alike(1, right, 0, u)
			for i := range wrong {
				far := api.Span(100*(i+1)) * u
				if i%2 == 0 {
					far = -far
				}
				l = append(l, api.Cand{ID: right + i + 1, Offset: far, Dist: u})
			}
			if right > wrong {
				wantMeet(t, l, -u, u, upTo(right)...)
			} else {
				wantNone(t, l)
			}
		}
	}
}

// P13.3: half of the candidates are too few, one more is enough, though the others agree too.
func TestMeetHalf(t *testing.T) {
	for half := 1; half <= 32; half++ {
		wantNone(t, append(alike(1, half, 0, u), alike(half+1, half, 9*u, u)...))
		l := append(alike(1, half, 0, u), alike(half+1, half-1, 9*u, u)...)
		wantMeet(t, l, -u, u, upTo(half)...)
		slices.Reverse(l)
		wantMeet(t, l, -u, u, idsOf(l)[half-1:]...)
		if half < 32 {
			wantMeet(t, append(alike(1, half+1, 9*u, u), alike(half+2, half-1, 0, u)...), 8*u, 10*u, upTo(half+1)...)
		}
	}
}

// P13.3: a middle just at a point lies not outside, one beside it does.
func TestMeetMiddleAtPoint(t *testing.T) {
	// Two make the points -2 and 2; the third one is wide.
	for middle := api.Span(-6); middle <= 6; middle++ {
		l := listOf(0, 2*u, 0, 2*u, middle*u, 20*u)
		if -2 <= middle && middle <= 2 {
			wantMeet(t, l, -2*u, 2*u, 1, 2, 3)
		} else {
			wantMeet(t, l, -2*u, 2*u, 1, 2)
		}
		// Of two there is none to spare.
		if -2 <= middle && middle <= 2 {
			wantMeet(t, l[1:], -2*u, 2*u, 2, 3)
		} else {
			wantNone(t, l[1:])
		}
	}
}

// P13.3: intervals that meet twice make the points the outermost ones of both.
func TestMeetTwice(t *testing.T) {
	// Four of five hold -10 to -8, and four 8 to 10.
	wantMeet(t, listOf(0, 10*u, 0, 10*u, 0, 10*u, -9*u, u, 9*u, u), -10*u, 10*u, 1, 2, 3, 4, 5)
	// Two of five do.
	wantNone(t, listOf(0, 10*u, -9*u, u, 9*u, u, -30*u, u, 30*u, u))
}

// The first 64 that count do: the 65th has no voice, nor have those that do not count.
func TestMeetFirst64(t *testing.T) {
	right, wrong := alike(1, 32, 0, u), alike(101, 32, 9*u, u)
	even := append(slices.Clone(right), wrong...)
	wantNone(t, even)
	wantNone(t, append(slices.Clone(even), alike(200, 1, 0, u)...))
	wantNone(t, append(slices.Clone(even), alike(200, 99, 0, u)...))
	wantNone(t, between(append(slices.Clone(even), alike(200, 1, 0, u)...)))
	wantMeet(t, even[:63], -u, u, upTo(32)...)
	wantMeet(t, between(even[:63]), -u, u, upTo(32)...)
	wantMeet(t, append(alike(33, 1, 0, u), even...), -u, u, append([]int{33}, upTo(32)...)...)
	// One that is narrower draws the points together, if it is the 64th.
	wantMeet(t, append(alike(1, 63, 0, 5*u), alike(64, 1, 0, u)...), -u, u, upTo(64)...)
	wantMeet(t, append(alike(1, 64, 0, 5*u), alike(65, 1, 0, u)...), -5*u, 5*u, upTo(64)...)
}

// stops are the places in ends where P13.3's two counts stop; -1, where one never does.
func stops(ends []complex128, many int) (up, down int) {
	count := 0.0
	up = slices.IndexFunc(ends, func(e complex128) bool {
		count -= imag(e)
		return count == float64(many)
	})
	count = 0
	for down = len(ends) - 1; down >= 0; down-- {
		if count += imag(ends[down]); count == float64(many) {
			break
		}
	}
	return up, down
}

// P13.3: where the count is reached from below, it is from above too, and then the low point is not above the high one: no f fails by that alone.
func TestMeetPointsDoNotCross(t *testing.T) {
	reached, never := 0, 0
	try := func(l []api.Cand) {
		ends := choose.Ends(l)
		n := len(ends) / 3
		for f := 0; 2*f < n; f++ {
			up, down := stops(ends, n-f)
			if up < 0 && down < 0 {
				never++
				continue
			}
			reached++
			if up < 0 || down < 0 || real(ends[up]) > real(ends[down]) {
				t.Fatalf("of %v and f %v the counts stop at %v and %v", l, f, up, down)
			}
		}
	}
	small(try)
	r := drawer(2)
	for range 3000 {
		try(drawNear(r, 64))
		try(drawAny(r))
	}
	if reached < 10000 || never < 10000 {
		t.Errorf("%v counts were reached, %v were not", reached, never)
	}
}

// P13.2 to P13.4: all short lists of a few offsets and distances.
func TestSmall(t *testing.T) {
	tried, found := 0, 0
	small(func(l []api.Cand) {
		tried++
		if _, _, is, _ := check(t, l); is {
			found++
		}
	})
	if found < 1000 || tried-found < 1000 {
		t.Errorf("of %v lists %v meet", tried, found)
	}
}

// P13.2 to P13.4: drawn lists, near and far, long and short.
func TestDrawn(t *testing.T) {
	r := drawer(3)
	found := 0
	for range 2000 {
		check(t, drawAny(r))
		for _, most := range []int{8, 20, 80} {
			if _, _, is, _ := check(t, drawNear(r, most)); is {
				found++
			}
		}
	}
	if found < 500 {
		t.Errorf("only %v meet", found)
	}
}
