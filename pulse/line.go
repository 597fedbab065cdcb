package pulse

import (
	"foliot/api"
	"foliot/fixed"
	"foliot/stamp"
)

const (
	maxEdges  = 16                // that are kept
	minEdges  = 3                 // that tell a mean
	farthest  = api.Span(1) << 23 // that an edge may be from the mean
	leastDisp = api.Span(1) << 12 // of a sample
)

// Line takes edges, and makes samples of them.
type Line struct {
	offsets [maxEdges]api.Span // of the edges, the oldest first
	count   int
	taken   bool      // whether any edge ever was
	last    api.Stamp // the nearest second of the last one that was
	phase   complex128
}

func New() *Line { return &Line{phase: 1} }

func (l *Line) Edge(at api.Stamp) bool {
	offset := Offset(at)
	nearest := stamp.Plus(at, offset)
	if l.taken && nearest == l.last || l.isFar(offset) {
		return false
	}
	l.keep(offset)
	l.taken, l.last = true, nearest
	l.phase = Turn(l.phase, 1)
	return true
}

// isFar tells whether the edges are enough to say that one with that offset is none of theirs.
func (l *Line) isFar(offset api.Span) bool {
	if l.count < minEdges {
		return false
	}
	middle, _ := Median(l.offsets[:l.count])
	return fixed.Abs(fixed.Sub(offset, middle)) > farthest
}

func (l *Line) keep(offset api.Span) {
	if l.count == maxEdges {
		copy(l.offsets[:], l.offsets[1:])
		l.count--
	}
	l.offsets[l.count] = offset
	l.count++
}

func (l *Line) Len() int { return l.count }

func (l *Line) Sample(now api.Stamp, fudge api.Span) (api.Sample, bool) {
	if l.count < minEdges {
		return api.Sample{}, false
	}
	middle, spread := Median(l.offsets[:l.count])
	l.count = 0
	return api.Sample{
		Offset: fixed.Add(middle, fudge),
		Disp:   fixed.Shift(spread, -1) + leastDisp,
		At:     now,
	}, true
}

func (l *Line) Phase() complex128 { return l.phase }
