package auth

import "foliot/api"

func Nak(q api.Packet) api.Packet {
	return api.Packet{
		Leap:      api.LeapAlarm,
		Version:   q.Version,
		Mode:      answerMode(q.Mode),
		Stratum:   api.MaxStrat,
		Poll:      q.Poll,
		Precision: api.Precision,
		Org:       q.Xmt,
		Nak:       true,
	}
}

func answerMode(mode int) int {
	switch mode {
	case api.ModeClient:
		return api.ModeServer
	case api.ModeActive:
		return api.ModePassive
	}
	return mode
}

func IsNak(p api.Packet) bool {
	return p.Nak && p.KeyID == 0 && len(p.MAC) == 0
}
