package system

import (
	"math"

	"foliot/api"
	"foliot/stamp"
)

// The versions that a packet may be of.
const (
	firstVersion = 1
	lastVersion  = 4
)

const leapBits = 3 // that a packet has room for

func Reply(s api.System, q api.Packet, rec, xmt api.Stamp) (api.Packet, bool) {
	mode := answerMode(q.Mode)
	if mode == 0 {
		return api.Packet{}, false
	}
	s = Age(s, xmt)
	p := api.Packet{
		Leap:      s.Leap & leapBits,
		Version:   within(q.Version, firstVersion, lastVersion),
		Mode:      mode,
		Poll:      within(q.Poll, math.MinInt8, math.MaxInt8),
		Precision: api.Precision,
		Delay:     onWire(s.Delay),
		Disp:      onWire(s.Disp),
		RefID:     s.RefID,
		Ref:       s.Ref,
		Org:       q.Xmt,
		Rec:       rec,
		Xmt:       max(xmt, 1),
	}
	if stratumCounts(s.Stratum) {
		p.Stratum = s.Stratum
	}
	return p, true
}

// answerMode is the mode by which a packet of that mode is answered; 0, which is no mode, if it is not.
func answerMode(mode int) int {
	answers := [...]int{
		api.ModeActive: api.ModePassive,
		api.ModeClient: api.ModeServer,
	}
	if mode < 0 || mode >= len(answers) {
		return 0
	}
	return answers[mode]
}

// onWire is d, as far as a packet has room for it.
func onWire(d api.Span) api.Span {
	return inside(d, stamp.FromShort(math.MaxUint32))
}
