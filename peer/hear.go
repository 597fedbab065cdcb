package peer

import (
	"foliot/api"
	"foliot/fixed"
	"foliot/stamp"
)

const maxDistance = 16 * api.Second // to a sender's root

func (p *Peer) Hear(q api.Packet, rec api.Stamp, auth bool) (int, api.Sample) {
	verdict := p.verdict(q, auth)
	p.learn(verdict, q, rec, auth)
	if verdict != api.VerdictTaken {
		return verdict, api.Sample{}
	}
	return verdict, sample(q, rec)
}

func (p *Peer) verdict(q api.Packet, auth bool) int {
	asked := q.Mode != api.ModeBroadcast
	switch {
	case !isAnsweredBy(p.kind, q.Mode):
		return api.VerdictMode
	case p.cameAlready(q):
		return api.VerdictDup
	case asked && !p.Waits():
		return api.VerdictLate
	case asked && q.Org != p.request:
		return api.VerdictBogus
	case !p.trusts(auth):
		return api.VerdictAuth
	case isKiss(q):
		return api.VerdictKiss
	}
	return Header(q, p.own)
}

// cameAlready: nobody asks for broadcasts, so that of these only a later Xmt shows that one is new.
func (p *Peer) cameAlready(q api.Packet) bool {
	switch {
	case !p.taken:
		return false
	case q.Mode == api.ModeBroadcast:
		return stamp.Since(q.Xmt, p.last) <= 0
	}
	return q.Xmt == p.last
}

func (p *Peer) trusts(auth bool) bool {
	return p.key == 0 || auth
}

func isKiss(q api.Packet) bool {
	return q.Stratum == 0 && q.Leap == api.LeapAlarm && q.RefID != 0
}

func Header(q api.Packet, own uint32) int {
	switch {
	case q.Leap == api.LeapAlarm, !stratumCounts(q.Stratum):
		return api.VerdictAlarm
	case q.Delay < 0, q.Disp < 0, stamp.Since(q.Xmt, q.Ref) < 0:
		return api.VerdictHeader
	case fixed.Add(fixed.Shift(q.Delay, -1), q.Disp) > maxDistance:
		return api.VerdictFar
	case q.Stratum > 1 && q.RefID == own:
		return api.VerdictLoop
	}
	return 0
}

// learn changes what is known, as that verdict of q asks.
func (p *Peer) learn(verdict int, q api.Packet, rec api.Stamp, auth bool) {
	switch verdict {
	case api.VerdictMode, api.VerdictDup, api.VerdictAuth:
		return
	case api.VerdictLate, api.VerdictBogus:
		if p.opensTalk(q, auth) {
			p.echo = echo{heard: true, xmt: q.Xmt, at: rec}
		}
		return
	case api.VerdictKiss:
		p.taken, p.last = true, q.Xmt
	case api.VerdictTaken:
		p.taken, p.last = true, q.Xmt
		p.echo = echo{heard: true, xmt: q.Xmt, at: rec}
		p.told = toldBy(q)
	}
	p.request = 0
}

// opensTalk: of two that ask each other the one who is heard first knows nothing to answer; without that echo neither would ever answer.
func (p *Peer) opensTalk(q api.Packet, auth bool) bool {
	symmetric := q.Mode == api.ModeActive || q.Mode == api.ModePassive
	return symmetric && q.Org == 0 && p.trusts(auth) && !p.echo.heard
}

func toldBy(q api.Packet) Told {
	return Told{
		Leap:      q.Leap,
		Stratum:   q.Stratum,
		Poll:      q.Poll,
		Precision: q.Precision,
		Delay:     q.Delay,
		Disp:      q.Disp,
		RefID:     q.RefID,
		Ref:       q.Ref,
	}
}
