package peer

import (
	"foliot/api"
	"foliot/fixed"
	"foliot/stamp"
)

const (
	wear           = api.Freq(4222124650) // of what was measured: 15 millionths
	leastDelay     = api.Span(1) << 12    // of an exchange
	broadcastDelay = api.Span(1) << 24    // it can't be measured
	leastRootDelay = api.Span(1) << 24
)

func Exchange(org, rec, xmt, dst api.Stamp) (api.Span, api.Span) {
	there, back := stamp.Since(rec, org), stamp.Since(xmt, dst)
	return fixed.Mean(there, back), max(fixed.Sub(there, back), leastDelay)
}

// sample is what comes of q, which was taken when the clock read rec.
func sample(q api.Packet, rec api.Stamp) api.Sample {
	precisions := fixed.Add(fixed.Power(q.Precision), fixed.Power(api.Precision))
	if q.Mode == api.ModeBroadcast {
		return api.Sample{
			Offset: fixed.Add(stamp.Since(q.Xmt, rec), broadcastDelay/2),
			Delay:  broadcastDelay,
			Disp:   precisions,
			At:     rec,
		}
	}
	offset, delay := Exchange(q.Org, q.Rec, q.Xmt, rec)
	return api.Sample{
		Offset: offset,
		Delay:  delay,
		Disp:   fixed.Add(precisions, worn(q.Org, rec)),
		At:     rec,
	}
}

// worn is how far off a clock may have become from one time to another.
func worn(from, to api.Stamp) api.Span {
	return fixed.Drift(wear, max(stamp.Since(to, from), 0))
}

func Distance(t Told, b api.Best, now api.Stamp) api.Span {
	delay := max(fixed.Add(t.Delay, b.Delay), leastRootDelay)
	distance := fixed.Shift(delay, -1)
	for _, part := range [...]api.Span{t.Disp, b.Disp, b.Jitter, worn(b.At, now)} {
		distance = fixed.Add(distance, part)
	}
	return distance
}

func Candidate(id int, a api.Assoc, t Told, b api.Best, now api.Stamp) api.Cand {
	c := api.Cand{
		ID:      id,
		Offset:  b.Offset,
		Dist:    Distance(t, b, now),
		Jitter:  b.Jitter,
		Stratum: t.Stratum,
		Prefer:  a.Prefer,
	}
	if a.Kind == api.KindClock {
		c.Stratum, c.Pulse = a.Stratum, a.Pulse
	}
	return c
}
