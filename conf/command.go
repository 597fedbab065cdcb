package conf

import (
	"slices"

	"foliot/api"
)

// What an association has whose line does not say it.
const (
	usualMinPoll = 6
	usualMaxPoll = 10
	usualHops    = 1
)

// reading is a configuration as far as it was read, with the commands that it was told by.
type reading struct {
	conf api.Config
	said []string
}

func (r *reading) add(text string) api.Errno {
	words, err := Words(text)
	if err != api.OK || len(words) == 0 {
		return err
	}
	l := &line{words: words}
	command := l.word()
	if standsOnce(command) && slices.Contains(r.said, command) {
		return api.ErrTwice
	}
	r.said = append(r.said, command)
	r.tell(command, l)
	return l.end()
}

func standsOnce(command string) bool {
	switch command {
	case "controlkey", "driftfile", "orphan", "step", "panic", "stepout", "average", "minimum", "broadcastclient", "manycastserver":
		return true
	}
	return false
}

func (r *reading) tell(command string, l *line) {
	c := &r.conf
	switch command {
	case "server":
		c.Assocs = append(c.Assocs, l.asked(api.KindServer))
	case "peer":
		c.Assocs = append(c.Assocs, l.asked(api.KindPeer))
	case "pool":
		c.Assocs = append(c.Assocs, l.asked(api.KindPool))
	case "broadcast":
		c.Assocs = append(c.Assocs, l.asked(api.KindBroadcast))
	case "manycastclient":
		c.Assocs = append(c.Assocs, l.asked(api.KindManycast))
	case "refclock":
		c.Assocs = append(c.Assocs, l.clock())
	case "broadcastclient":
		c.Listen = true
	case "manycastserver":
		c.Manycast = true
	case "key":
		c.Keys = append(c.Keys, l.key())
	case "trustedkey":
		c.Trusted = append(c.Trusted, several(l, l.number)...)
	case "controlkey":
		c.Control = l.number()
	case "restrict":
		c.Rules = append(c.Rules, l.rule())
	case "driftfile":
		c.Drift = l.name()
	case "statistics":
		c.Stats = append(c.Stats, several(l, l.statistic)...)
	case "orphan":
		c.Orphan = l.number()
	case "step":
		c.Step = thousandths(l.number())
	case "panic":
		c.Panic = seconds(l.number())
	case "stepout":
		c.Stepout = l.number()
	case "average":
		c.Average = l.number()
	case "minimum":
		c.Minimum = l.number()
	default:
		l.fail(api.ErrToken)
	}
}

func (l *line) asked(kind int) api.Assoc {
	a := api.Assoc{Kind: kind, Addr: l.address(), MinPoll: usualMinPoll, MaxPoll: usualMaxPoll}
	may := []string{"key", "minpoll", "maxpoll"}
	if isFollowed(kind) {
		may = append(may, "burst", "iburst", "prefer")
	}
	if isCalled(kind) {
		may = append(may, "ttl")
		a.TTL = usualHops
	}
	for option := range l.options(may) {
		switch option {
		case "key":
			a.Key = l.number()
		case "minpoll":
			a.MinPoll = l.number()
		case "maxpoll":
			a.MaxPoll = l.number()
		case "burst":
			a.Burst = true
		case "iburst":
			a.Iburst = true
		case "prefer":
			a.Prefer = true
		case "ttl":
			a.TTL = l.number()
		}
	}
	return a
}

func (l *line) clock() api.Assoc {
	a := api.Assoc{Kind: api.KindClock, MinPoll: api.MinPoll, MaxPoll: api.MinPoll}
	a.Pulse = l.pick(nmeaWord, ppsWord)
	a.Addr = l.unit()
	for option := range l.options([]string{"prefer", "stratum", "fudge"}) {
		switch option {
		case "prefer":
			a.Prefer = true
		case "stratum":
			a.Stratum = l.number()
		case "fudge":
			a.Fudge = thousandths(l.signed())
		}
	}
	return a
}

func (l *line) key() api.Key {
	k := api.Key{ID: l.number(), Kind: api.KeySHA}
	if l.pick(shaWord, cmacWord) {
		k.Kind = api.KeyCMAC
	}
	k.Bytes = l.secret()
	return k
}

func (l *line) rule() api.Rule {
	var r api.Rule
	r.Addr, r.Bits = l.addresses()
	flags := flagWords()
	for flag := range l.options(flags) {
		r.Flags |= 1 << slices.Index(flags, flag)
	}
	return r
}
