package restrict

import "foliot/api"

const maxCode = 4 // bytes of a kiss-o'-death's code

func KissCode(s string) uint32 {
	if len(s) > maxCode {
		return 0
	}
	var code uint32
	for i := range len(s) {
		if s[i] < 'A' || s[i] > 'Z' {
			return 0
		}
		code |= uint32(s[i]) << (24 - 8*i)
	}
	return code
}

func Death(q api.Packet, code uint32, poll int) api.Packet {
	return api.Packet{
		Leap:      api.LeapAlarm,
		Version:   q.Version,
		Mode:      answerMode(q.Mode),
		Poll:      min(max(q.Poll, poll, api.MinPoll), api.MaxPoll),
		Precision: api.Precision,
		RefID:     code,
		Org:       q.Xmt,
		Rec:       q.Xmt,
		Xmt:       q.Xmt,
	}
}

func answerMode(mode int) int {
	switch mode {
	case api.ModeClient:
		return api.ModeServer
	case api.ModeActive:
		return api.ModePassive
	}
	return mode
}

func IsDeath(p api.Packet) (uint32, bool) {
	if p.Stratum != 0 || p.Leap != api.LeapAlarm || p.RefID == 0 {
		return 0, false
	}
	return p.RefID, true
}
