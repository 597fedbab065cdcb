package loop

import (
	"foliot/api"
	"foliot/fixed"
)

const (
	longGap    = 1 << 11      // seconds; behind more of them it is their whole gap that tells the rate
	gapParts   = 8            // and an eighth of that counts
	offsetUnit = 1 << 16 >> 8 // rates are told in 2^16 times finer parts than spans, and a 2^8th of an offset counts
)

// measure has the rate make up for all that came since the offset that was taken last.
func (l *Loop) measure(offset api.Span, since int) {
	l.turn(fixed.Rate(fixed.Sub(offset, l.base), seconds(max(since, 1))))
}

// adjust has the rate make up for a part of the offset: for the more of it, the longer the gap was, up to a poll's length.
func (l *Loop) adjust(offset api.Span, since int) {
	since = max(since, 1)
	if since > longGap {
		l.turn(fixed.Rate(fixed.Sub(offset, l.base), seconds(gapParts*since)))
		return
	}
	length := 1 << l.exponent
	x := fixed.Scale(offset, min(since, length)*offsetUnit, length*length)
	l.turn(fixed.Cut(api.Freq(x)))
}

// turn adds to the rate what was cut already, so that the sum fits.
func (l *Loop) turn(x api.Freq) { l.rate = fixed.Cut(l.rate + x) }

// seconds saturates, as every span: eight times the longest gap is more than a span holds.
func seconds(n int) api.Span { return fixed.Scale(api.Second, n, 1) }
