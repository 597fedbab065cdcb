package choose_test

import (
	"testing"

	"foliot/api"
	"foliot/choose"
)

// holds tells whether an offset lies within what the candidate says, by the unit of a span.
func holds(c api.Cand, offset api.Span) bool {
	return c.Offset-c.Dist <= offset && offset <= c.Offset+c.Dist
}

// offsetsOf are those at which what the candidates say begins, ends, and has its middle.
func offsetsOf(l []api.Cand) []api.Span {
	var offsets []api.Span
	for _, c := range l {
		offsets = append(offsets, c.Offset-c.Dist, c.Offset, c.Offset+c.Dist)
	}
	return offsets
}

// truth is how many hold an offset, and the greatest Dist of these.
func truth(l []api.Cand, offset api.Span) (held int, greatest api.Span) {
	for _, c := range l {
		if holds(c, offset) {
			held++
			greatest = max(greatest, c.Dist)
		}
	}
	return held, greatest
}

func away(a, b api.Span) api.Span { return max(a-b, b-a) }

// seen counts on how many lists a thing that follows was asked.
type seen struct{ all, most, none, found int }

// follow holds what follows against the answers of l.
func (s *seen) follow(t *testing.T, l []api.Cand) {
	t.Helper()
	low, high, found := choose.Meet(l)
	told := choose.Survivors(l)
	voices := counted(l)
	if found {
		s.found++
		if 2*len(told) <= len(voices) {
			t.Fatalf("of %v only %v survive", l, told)
		}
		s.truths(t, voices, low, high, told)
	} else if len(told) != 0 {
		t.Fatalf("of %v nothing is found, and %v survive", l, told)
	}
	if len(heldBy(intervalsOf(l), len(voices)/2+1)) == 0 {
		s.none++
		if found {
			t.Fatalf("of %v no offset is held by more than half, %v and %v are found", l, low, high)
		}
	}
}

// truths goes through the offsets that all hold, and that more than half do.
func (s *seen) truths(t *testing.T, voices []api.Cand, low, high api.Span, told []api.Cand) {
	t.Helper()
	for _, offset := range offsetsOf(voices) {
		held, greatest := truth(voices, offset)
		if held == len(voices) {
			s.all++
			if offset < low || offset > high {
				t.Fatalf("of %v all hold %v, it is not from %v to %v", voices, offset, low, high)
			}
		}
		if 2*held <= len(voices) {
			continue
		}
		s.most++
		bound := 2*greatest + 1<<17
		if away(offset, low) > bound || away(offset, high) > bound {
			t.Fatalf("of %v more than half hold %v, it is too far from %v or %v", voices, offset, low, high)
		}
		for _, c := range told {
			if away(offset, api.Span(unitsBelow(c.Offset, 0))*u) > bound {
				t.Fatalf("of %v more than half hold %v, it is too far from the middle of %v", voices, offset, c)
			}
		}
	}
}

func (s *seen) enough(t *testing.T, least int) {
	t.Helper()
	if s.all < least || s.most < least || s.none < least || s.found < least {
		t.Errorf("seen were only %+v", *s)
	}
}

// P13.5: of all short lists of a few offsets and distances.
func TestFollowsSmall(t *testing.T) {
	var s seen
	small(func(l []api.Cand) { s.follow(t, l) })
	s.enough(t, 1000)
}

// P13.5: of drawn lists.
func TestFollowsDrawn(t *testing.T) {
	var s seen
	r := drawer(7)
	for range 5000 {
		for _, most := range []int{4, 8, 70} {
			s.follow(t, drawNear(r, most))
		}
		s.follow(t, drawAny(r))
	}
	s.enough(t, 1000)
}

// P13.5: all hold an offset at the very edge of what they say, by a part of a unit.
func TestFollowsEdges(t *testing.T) {
	var s seen
	for part := range 2*u + 1 {
		if part > 3 && part < u-3 || part > u+3 && part < 2*u-3 {
			continue
		}
		for _, offset := range []api.Span{0, 5*u + 3, -5*u - 3, farOffset - 9*u, 9*u - farOffset} {
			s.follow(t, listOf(offset, part))
			s.follow(t, listOf(offset+part, part, offset-part, part, offset, 0))
			s.follow(t, listOf(offset+part, part, offset, part, offset, part, offset+4*u, u))
			s.follow(t, listOf(offset, 0, offset+9*u, 0))
		}
	}
	s.enough(t, 20)
}

// P13.5: more than half tell the truth, and whoever else lies does it as badly as may be: it is found near the truth, or not at all.
func TestFollowsLiars(t *testing.T) {
	r := drawer(8)
	found := 0
	for range 5000 {
		right := 1 + r.IntN(32)
		var l []api.Cand
		for i := range right {
			dist := api.Span(r.Int64N(int64(8 * u)))
			l = append(l, api.Cand{ID: i + 1, Offset: api.Span(r.Int64N(int64(2*dist+1))) - dist, Dist: dist})
		}
		for i := range r.IntN(right) {
			l = append(l, api.Cand{ID: 100 + i, Offset: api.Span(r.Int64N(int64(64*u))) - 32*u, Dist: api.Span(r.Int64N(int64(64 * u)))})
		}
		r.Shuffle(len(l), func(i, j int) { l[i], l[j] = l[j], l[i] })
		_, greatest := truth(l, 0)
		low, high, is := choose.Meet(l)
		if !is {
			continue
		}
		found++
		if bound := 2*greatest + 1<<17; away(low, 0) > bound || away(high, 0) > bound {
			t.Fatalf("of %v the points are %v and %v", l, low, high)
		}
	}
	if found < 1000 {
		t.Errorf("only %v were found", found)
	}
}
