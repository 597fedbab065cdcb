package loop

import (
	"foliot/api"
	"foliot/fixed"
)

func (l *Loop) Update(offset, jitter api.Span, now int) (int, api.Span) {
	offset, now = fixed.Add(offset, 0), min(max(now, 0), latest)
	size, since := fixed.Abs(offset), max(now-l.when, 0)
	if size > l.panics {
		return api.ActPanic, 0
	}
	large, early := size > l.most, since < l.stepout
	switch l.state {
	case never:
		if large {
			goto stepped
		}
		l.state = measuring
		l.take(offset, now)
		goto ignored
	case filed:
		if large {
			goto stepped
		}
		goto followed
	case spike:
		if !large {
			goto adjusted
		}
		if early {
			goto ignored
		}
		goto stepped
	case measuring:
		if early {
			goto ignored
		}
		l.measure(offset, since)
		if large {
			goto stepped
		}
		goto followed
	case steady:
		if !large {
			goto adjusted
		}
		l.state, l.when = spike, now
		goto ignored
	}
adjusted:
	l.adjust(offset, since)
followed:
	l.follow(offset, jitter, now)
	return api.ActSlew, 0
stepped:
	l.restart(now)
	return api.ActStep, offset
ignored:
	return api.ActNone, 0
}

// take remembers an offset: the rate is reckoned from it on.
func (l *Loop) take(offset api.Span, now int) { l.base, l.when = offset, now }

// follow has the offset slewed from now on.
func (l *Loop) follow(offset, jitter api.Span, now int) {
	l.left = offset
	l.take(offset, now)
	l.state = steady
	l.weigh(fixed.Abs(offset) < fixed.Shift(jitter, noisePlaces))
}

// restart begins anew behind a step: that leaves no offset, neither to slew nor to reckon from.
func (l *Loop) restart(now int) {
	l.left = 0
	l.take(0, now)
	l.exponent, l.tally = api.MinPoll, 0
	if l.state == never {
		l.state = measuring
	} else {
		l.state = steady
	}
}

const (
	noisePlaces = 2  // an offset below 2^2 times the jitter is no more than noise
	mostTally   = 30 // so much may speak for another exponent, and nothing comes of it
)

// weigh lets the poll's exponent rise while offsets are no more than noise, and fall twice as fast while they are not.
func (l *Loop) weigh(noise bool) {
	if noise {
		l.tally += l.exponent
	} else {
		l.tally -= 2 * l.exponent
	}
	if l.tally > mostTally {
		l.exponent, l.tally = min(l.exponent+1, api.MaxPoll), 0
	}
	if l.tally < -mostTally {
		l.exponent, l.tally = max(l.exponent-1, api.MinPoll), 0
	}
}
