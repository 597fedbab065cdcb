package cluster

import (
	"slices"

	"foliot/api"
)

// surelySame: the best one's Offset at most, either way, so that a pulse is sure to be of the second that our clock tells.
const surelySame = api.Span(1) << 30

// Result is what mitigation comes to: the system peer, the offset and the jitter; whether there is one; whether a pulse counts.
type Result struct {
	Peer           int
	Offset, Jitter api.Span
	OK             bool
	Pulse          bool
}

func Best(l []api.Cand, was int) (api.Cand, bool) {
	if len(l) == 0 {
		return api.Cand{}, false
	}
	return l[bestPlace(l, was)], true
}

// bestPlace is where the best one of l stands, which has some.
func bestPlace(l []api.Cand, was int) int {
	if place := slices.IndexFunc(l, func(c api.Cand) bool { return c.Prefer }); place >= 0 {
		return place
	}
	if place := placeOf(l, was); place >= 0 && l[place].Stratum == l[0].Stratum {
		return place
	}
	return 0
}

func Mitigate(l []api.Cand, was int) Result {
	pulses, others := split(Cluster(l))
	if len(others) == 0 {
		return Result{}
	}
	place := bestPlace(others, was)
	best := others[place]
	if len(pulses) > 0 && -surelySame <= best.Offset && best.Offset <= surelySame {
		told := alone(pulses[0])
		told.Pulse = true
		return told
	}
	if best.Prefer {
		return alone(best)
	}
	offset, jitter := Combine(bestAhead(others, place))
	return Result{Peer: best.ID, Offset: offset, Jitter: jitter, OK: true}
}

// split is those with Pulse, and those without it.
func split(l []api.Cand) (pulses, others []api.Cand) {
	for _, c := range l {
		if c.Pulse {
			pulses = append(pulses, c)
		} else {
			others = append(others, c)
		}
	}
	return pulses, others
}

// alone is what comes of one that is followed, whatever others say.
func alone(c api.Cand) Result {
	return Result{Peer: c.ID, Offset: c.Offset, Jitter: c.Jitter, OK: true}
}

// bestAhead is l with the one at the place ahead of all others.
func bestAhead(l []api.Cand, place int) []api.Cand {
	return slices.Concat(l[place:place+1], l[:place], l[place+1:])
}
