package conf

import "foliot/api"

const (
	shaWord  = "sha256"
	cmacWord = "cmac"
	nmeaWord = "nmea"
	ppsWord  = "pps"
)

// maxName is how many bytes a file's name has at most.
const maxName = 24

// flagWords are the flags of restrictions, the lowest bit's first.
func flagWords() []string {
	return []string{"noserve", "noquery", "nomodify", "nopeer", "notrust", "limited", "kod", "ignore"}
}

// kindWord is the command that makes an association of that kind, if it is one of others than clocks.
func kindWord(kind int) string {
	switch kind {
	case api.KindServer:
		return "server"
	case api.KindPeer:
		return "peer"
	case api.KindBroadcast:
		return "broadcast"
	case api.KindPool:
		return "pool"
	}
	return "manycastclient"
}

// isCalled tells whether what is sent goes to many at once, so that it is said how many hops far.
func isCalled(kind int) bool {
	return kind == api.KindBroadcast || kind == api.KindManycast
}

// isFollowed tells whether it is the one with that address whose clock is followed, so that it may be preferred and asked in bursts.
func isFollowed(kind int) bool {
	return kind == api.KindServer || kind == api.KindPeer
}

func isName(s string) bool {
	if len(s) < 1 || len(s) > maxName {
		return false
	}
	for i := range len(s) {
		b := s[i]
		if (b < 'a' || b > 'z') && (b < '0' || b > '9') && b != '.' && b != '_' {
			return false
		}
	}
	return true
}

func isStatistic(s string) bool {
	return s == "loop" || s == "peer" || s == "clock"
}
