package conf

import (
	"slices"

	"foliot/api"
)

const (
	maxStats   = 3
	maxUnit    = 3
	maxStratum = api.MaxStrat - 1
	maxFudge   = 1000 // thousandths of a second, either way
	maxHops    = 255
	maxKeyID   = 65535
	cmacBytes  = 16
	everybody  = 1<<32 - 1
)

func Check(c api.Config) api.Errno {
	points := []func(api.Config) api.Errno{checkCounts, checkAssocs, checkKeys, checkTrust, checkRules, checkNames, checkNumbers}
	for _, check := range points {
		if err := check(c); err != api.OK {
			return err
		}
	}
	return api.OK
}

func checkCounts(c api.Config) api.Errno {
	if len(c.Assocs) > api.MaxPeers || len(c.Keys) > api.MaxKeys || len(c.Trusted) > api.MaxKeys ||
		len(c.Rules) > api.MaxRules || len(c.Stats) > maxStats {
		return api.ErrMany
	}
	return api.OK
}

func checkAssocs(c api.Config) api.Errno {
	for i, a := range c.Assocs {
		if err := checkAssoc(a, c.Keys); err != api.OK {
			return err
		}
		// A clock's unit and an address may be one number without being one thing.
		same := func(b api.Assoc) bool {
			return b.Addr == a.Addr && (b.Kind == api.KindClock) == (a.Kind == api.KindClock)
		}
		if slices.ContainsFunc(c.Assocs[:i], same) {
			return api.ErrTwice
		}
	}
	return api.OK
}

func checkAssoc(a api.Assoc, keys []api.Key) api.Errno {
	switch {
	case a.Kind < api.KindServer || a.Kind > api.KindClock:
		return api.ErrArg
	case a.Kind == api.KindClock:
		return checkClock(a)
	}
	return checkAsked(a, keys)
}

func checkClock(a api.Assoc) api.Errno {
	fudge := countThousandths(a.Fudge)
	switch {
	case a.Addr > maxUnit, !isWithin(a.Stratum, 0, maxStratum):
		return api.ErrNumber
	case !isWithin(fudge, -maxFudge, maxFudge), a.Fudge != thousandths(fudge):
		return api.ErrNumber
	case a.MinPoll != api.MinPoll, a.MaxPoll != api.MinPoll, a.Key != 0, a.TTL != 0, a.Burst, a.Iburst:
		return api.ErrArg
	}
	return api.OK
}

func checkAsked(a api.Assoc, keys []api.Key) api.Errno {
	switch {
	case a.Pulse, a.Fudge != 0, a.Stratum != 0:
		return api.ErrArg
	case !fitsKind(a.Addr, a.Kind):
		return api.ErrAddr
	case a.MinPoll < api.MinPoll, a.MaxPoll > api.MaxPoll, a.MinPoll > a.MaxPoll:
		return api.ErrNumber
	case a.Key != 0 && !hasID(keys, a.Key):
		return api.ErrNumber
	case isCalled(a.Kind) && !isWithin(a.TTL, 1, maxHops), !isCalled(a.Kind) && a.TTL != 0:
		return api.ErrNumber
	case !isFollowed(a.Kind) && (a.Prefer || a.Burst || a.Iburst):
		return api.ErrArg
	}
	return api.OK
}

func fitsKind(addr uint32, kind int) bool {
	isGroup := addr>>28 == 14
	switch kind {
	case api.KindBroadcast:
		return isGroup || addr == everybody
	case api.KindManycast:
		return isGroup
	}
	return !isGroup && addr != everybody && addr != 0
}

func checkKeys(c api.Config) api.Errno {
	for i, k := range c.Keys {
		size := len(k.Bytes)
		switch {
		case !isWithin(k.ID, 1, maxKeyID):
			return api.ErrNumber
		case k.Kind != api.KeySHA && k.Kind != api.KeyCMAC:
			return api.ErrArg
		case !isWithin(size, 1, api.MaxKey), k.Kind == api.KeyCMAC && size != cmacBytes:
			return api.ErrNumber
		case hasID(c.Keys[:i], k.ID):
			return api.ErrTwice
		}
	}
	return api.OK
}

func checkTrust(c api.Config) api.Errno {
	for i, id := range c.Trusted {
		switch {
		case !hasID(c.Keys, id):
			return api.ErrNumber
		case slices.Contains(c.Trusted[:i], id):
			return api.ErrTwice
		}
	}
	if c.Control != 0 && !hasID(c.Keys, c.Control) {
		return api.ErrNumber
	}
	return api.OK
}

func checkRules(c api.Config) api.Errno {
	for i, r := range c.Rules {
		same := func(ahead api.Rule) bool { return ahead.Addr == r.Addr && ahead.Bits == r.Bits }
		switch {
		case !isWithin(r.Bits, 0, 32):
			return api.ErrNumber
		case r.Addr<<r.Bits != 0:
			return api.ErrAddr
		case !isWithin(r.Flags, 0, 255):
			return api.ErrArg
		case slices.ContainsFunc(c.Rules[:i], same):
			return api.ErrTwice
		}
	}
	return api.OK
}

func checkNames(c api.Config) api.Errno {
	if c.Drift != "" && !isName(c.Drift) {
		return api.ErrToken
	}
	for i, s := range c.Stats {
		switch {
		case !isStatistic(s):
			return api.ErrToken
		case slices.Contains(c.Stats[:i], s):
			return api.ErrTwice
		}
	}
	return api.OK
}

func checkNumbers(c api.Config) api.Errno {
	step, limit := countThousandths(c.Step), countSeconds(c.Panic)
	switch {
	case !isWithin(c.Orphan, 0, maxStratum):
		return api.ErrNumber
	case !isWithin(step, 1, 10000), c.Step != thousandths(step):
		return api.ErrNumber
	case !isWithin(limit, 1, 100000), c.Panic != seconds(limit):
		return api.ErrNumber
	case !isWithin(c.Stepout, 0, 10000), !isWithin(c.Average, 0, 10), !isWithin(c.Minimum, 0, 60):
		return api.ErrNumber
	}
	return api.OK
}

func isWithin(n, least, most int) bool { return n >= least && n <= most }

func hasID(keys []api.Key, id int) bool {
	return slices.ContainsFunc(keys, func(k api.Key) bool { return k.ID == id })
}
