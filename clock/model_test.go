package clock_test

import (
	"math"
	"math/big"
	"math/rand/v2"
	"testing"

	"foliot/api"
	"foliot/clock"
	"foliot/stamp"
)

const (
	least    = math.MinInt
	greatest = math.MaxInt
	lowest   = api.Span(math.MinInt64)
	top      = api.Span(math.MaxInt64)
	most     = api.MaxSpan
	second   = api.Second
	fastest  = api.MaxFreq
	last     = api.Stamp(math.MaxUint64) // of an era
	life     = 1 << 20                   // seconds that may pass
	day      = 86400
	s        = api.Stamp(1) << 32
)

// The signatures that the chapter lists.
var (
	_ func(begin stamp.Date, error api.Span, rate api.Freq) *clock.Clock = clock.New
	_ func(c *clock.Clock, seconds int) api.Errno                        = (*clock.Clock).Pass
	_ func(c *clock.Clock) api.Stamp                                     = (*clock.Clock).Now
	_ func(c *clock.Clock) stamp.Date                                    = (*clock.Clock).Date
	_ func(c *clock.Clock) api.Stamp                                     = (*clock.Clock).True
	_ func(c *clock.Clock) api.Span                                      = (*clock.Clock).Error
	_ func(c *clock.Clock, after api.Span) api.Stamp                     = (*clock.Clock).At
	_ func(c *clock.Clock, d api.Span)                                   = (*clock.Clock).Slew
	_ func(c *clock.Clock, d api.Span)                                   = (*clock.Clock).Step
	_ func(c *clock.Clock, f api.Freq)                                   = (*clock.Clock).SetFreq
	_ func(c *clock.Clock, f api.Freq)                                   = (*clock.Clock).SetRate
	_ func(c *clock.Clock) api.Freq                                      = (*clock.Clock).Freq
	_ func(c *clock.Clock) api.Freq                                      = (*clock.Clock).Rate
	_ func(c *clock.Clock, leap int) bool                                = (*clock.Clock).SetLeap
	_ func(c *clock.Clock) int                                           = (*clock.Clock).Seconds
)

// model says the promises by numbers without end.
type model struct {
	truth      *big.Int // its moment
	fine       *big.Int // the error and the rest as one number, in 2^-48 seconds
	rate, freq *big.Int
	leap       int
	passed     int
}

// told is what a clock tells.
type told struct {
	date    stamp.Date
	now     api.Stamp
	truth   api.Stamp
	error   api.Span
	freq    api.Freq
	rate    api.Freq
	seconds int
	at      [len(afters)]api.Stamp
}

// afters are spans for At, some at an edge of one that saturates.
var afters = [...]api.Span{0, 1, -1, second, -second, 7<<40 + 12345, most - 1<<52, 1<<52 - most, most, -most, top, lowest}

func number(n int64) *big.Int { return big.NewInt(n) }

func plus(a, b *big.Int) *big.Int { return new(big.Int).Add(a, b) }

func times(a, b *big.Int) *big.Int { return new(big.Int).Mul(a, b) }

// over is the greatest whole number that is not above a / b, left what is left then; b is above 0.
func over(a, b *big.Int) *big.Int { return new(big.Int).Div(a, b) }

func left(a, b *big.Int) *big.Int { return new(big.Int).Mod(a, b) }

func pow(n int) *big.Int { return new(big.Int).Lsh(number(1), uint(n)) }

// What is reckoned with again and again.
var (
	parts   = pow(16) // of a span, that the rest is in
	bound   = pow(62)
	aSecond = pow(32)
	aDay    = times(number(day), aSecond)
)

// both is x, cut at limit and its negative.
func both(x, limit *big.Int) *big.Int {
	if x.CmpAbs(limit) <= 0 {
		return x
	}
	return times(limit, number(int64(x.Sign())))
}

func saturated(x *big.Int) *big.Int { return both(x, bound) }

func cut(f api.Freq) *big.Int { return both(number(int64(f)), number(140737488355)) }

func moment(d stamp.Date) *big.Int {
	return plus(times(number(int64(d.Era)), pow(64)), new(big.Int).SetUint64(uint64(d.At)))
}

func dateOf(moment *big.Int) stamp.Date {
	return stamp.Date{Era: int(over(moment, pow(64)).Int64()), At: stampOf(moment)}
}

func stampOf(moment *big.Int) api.Stamp { return api.Stamp(left(moment, pow(64)).Uint64()) }

func modelOf(begin stamp.Date, error api.Span, rate api.Freq) *model {
	if begin.Era < -1000 || begin.Era > 1000 {
		begin = stamp.Date{At: begin.At}
	}
	return &model{truth: moment(begin), fine: times(saturated(number(int64(error))), pow(16)), rate: cut(rate), freq: number(0)}
}

func (m *model) error() *big.Int { return over(m.fine, parts) }

// more makes the error more by a span; what is left stays.
func (m *model) more(d *big.Int) {
	rest := left(m.fine, parts)
	m.fine = plus(times(saturated(plus(m.error(), d)), parts), rest)
}

func (m *model) date() *big.Int { return plus(m.truth, m.error()) }

func (m *model) day() *big.Int { return over(m.date(), aDay) }

func (m *model) at(after api.Span) api.Stamp {
	a := number(int64(after))
	drift := saturated(over(times(plus(m.rate, m.freq), a), pow(48)))
	return stampOf(plus(m.date(), saturated(plus(a, drift))))
}

// pass says P16.2.
func (m *model) pass(seconds int) api.Errno {
	if seconds < 0 || seconds > life || m.passed+seconds > life {
		return api.ErrArg
	}
	for range seconds {
		m.passed++
		if m.leap == 0 {
			m.goOn()
			continue
		}
		was := m.day()
		m.goOn()
		if m.day().Cmp(was) > 0 {
			m.more(times(number(int64(2*m.leap-3)), aSecond))
			m.leap = 0
		}
	}
	return api.OK
}

// goOn says what a second does, but for the leap.
func (m *model) goOn() {
	m.truth = plus(m.truth, aSecond)
	m.fine = plus(m.fine, plus(m.rate, m.freq))
	m.more(number(0))
}

func (m *model) setLeap(leap int) bool {
	if leap != 0 && leap != 1 && leap != 2 {
		return false
	}
	m.leap = leap
	return true
}

func (m *model) told() told {
	x := told{
		date:    dateOf(m.date()),
		now:     stampOf(m.date()),
		truth:   stampOf(m.truth),
		error:   api.Span(m.error().Int64()),
		freq:    api.Freq(m.freq.Int64()),
		rate:    api.Freq(m.rate.Int64()),
		seconds: m.passed,
	}
	for i, a := range afters {
		x.at[i] = m.at(a)
	}
	return x
}

func tells(c *clock.Clock) told {
	x := told{date: c.Date(), now: c.Now(), truth: c.True(), error: c.Error(), freq: c.Freq(), rate: c.Rate(), seconds: c.Seconds()}
	for i, a := range afters {
		x.at[i] = c.At(a)
	}
	return x
}

// pair is a clock beside what the promises say of it; behind each call all that it tells is held against them.
type pair struct {
	t *testing.T
	c *clock.Clock
	m *model
}

func pairOf(t *testing.T, begin stamp.Date, error api.Span, rate api.Freq) *pair {
	t.Helper()
	x := &pair{t: t, c: clock.New(begin, error, rate), m: modelOf(begin, error, rate)}
	x.check()
	return x
}

// check asks twice, as what is asked changes nothing.
func (x *pair) check() {
	x.t.Helper()
	for range 2 {
		if got, want := tells(x.c), x.m.told(); got != want {
			x.t.Fatalf("it tells %+v, not %+v", got, want)
		}
	}
}

func (x *pair) pass(seconds int) api.Errno {
	x.t.Helper()
	e := x.c.Pass(seconds)
	if want := x.m.pass(seconds); e != want {
		x.t.Fatalf("Pass(%d) is %d, not %d", seconds, e, want)
	}
	x.check()
	return e
}

func (x *pair) slew(d api.Span) {
	x.t.Helper()
	x.c.Slew(d)
	x.m.more(number(int64(d)))
	x.check()
}

func (x *pair) step(d api.Span) {
	x.t.Helper()
	x.c.Step(d)
	x.m.more(number(int64(d)))
	x.check()
}

func (x *pair) setFreq(f api.Freq) {
	x.t.Helper()
	x.c.SetFreq(f)
	x.m.freq = cut(f)
	x.check()
}

func (x *pair) setRate(f api.Freq) {
	x.t.Helper()
	x.c.SetRate(f)
	x.m.rate = cut(f)
	x.check()
}

func (x *pair) setLeap(leap int) bool {
	x.t.Helper()
	is := x.c.SetLeap(leap)
	if want := x.m.setLeap(leap); is != want {
		x.t.Fatalf("SetLeap(%d) is %t", leap, is)
	}
	x.check()
	return is
}

// passes lets seconds pass, and holds the error against what is written out.
func (x *pair) passes(seconds int, error api.Span) {
	x.t.Helper()
	if e := x.pass(seconds); e != api.OK {
		x.t.Fatalf("Pass(%d) is %d", seconds, e)
	}
	x.errs(error)
}

func (x *pair) refuses(seconds int) {
	x.t.Helper()
	if e := x.pass(seconds); e != api.ErrArg {
		x.t.Fatalf("Pass(%d) is %d, not ErrArg", seconds, e)
	}
}

func (x *pair) errs(error api.Span) {
	x.t.Helper()
	if got := x.c.Error(); got != error {
		x.t.Fatalf("the error is %d, not %d", got, error)
	}
}

// rests holds the rest against what is written out: it is seen by how much is wanted for a whole span more. This takes three seconds, at rates that leave error and rest as they were; the error must not be at its bound.
func (x *pair) rests(rest api.Freq) {
	x.t.Helper()
	rate, freq, error := x.c.Rate(), x.c.Freq(), x.c.Error()
	x.setFreq(0)
	x.setRate(65535 - rest)
	x.passes(1, error)
	x.setRate(1)
	x.passes(1, error+1)
	x.setRate(rest)
	x.passes(1, error+1)
	x.slew(-1)
	x.setRate(rate)
	x.setFreq(freq)
}

// orders is SetLeap of what may be ordered.
func (x *pair) orders(leap int) {
	x.t.Helper()
	if !x.setLeap(leap) {
		x.t.Fatalf("SetLeap(%d) is false", leap)
	}
}

// clockAt is a clock without an error whose date lies so many seconds behind the beginning of the era 0.
func clockAt(t *testing.T, seconds int) *pair {
	t.Helper()
	return pairOf(t, dateAt(seconds), 0, 0)
}

func dateAt(seconds int) stamp.Date {
	return dateOf(times(number(int64(seconds)), pow(32)))
}

// spans are edges of errors and of what they are put right by, beside what each counts as.
var spans = []struct{ given, counts api.Span }{
	{lowest, -most}, {lowest + 1, -most}, {-most - 1, -most}, {-most, -most}, {1 - most, 1 - most}, {-second, -second}, {-1, -1},
	{0, 0}, {1, 1}, {5, 5}, {second, second}, {most - 1, most - 1}, {most, most}, {most + 1, most}, {top - 1, most}, {top, most},
}

// rates are what is handed in as a rate beside what it counts as.
var rates = []struct{ f, counts api.Freq }{
	{least, -fastest}, {-1 << 48, -fastest}, {-fastest - 1, -fastest}, {-fastest, -fastest}, {1 - fastest, 1 - fastest},
	{-65537, -65537}, {-65536, -65536}, {-1, -1}, {0, 0}, {1, 1}, {65535, 65535}, {65536, 65536},
	{fastest - 1, fastest - 1}, {fastest, fastest}, {fastest + 1, fastest}, {1 << 48, fastest}, {greatest, fastest},
}

func drawer(seed uint64) *rand.Rand { return rand.New(rand.NewPCG(16, seed)) }

// drawSpan draws a span of any size, often one at an edge.
func drawSpan(r *rand.Rand) api.Span {
	if r.IntN(6) == 0 {
		return spans[r.IntN(len(spans))].given
	}
	return api.Span(r.Uint64()) >> r.IntN(64)
}

// drawRate draws a rate of any size, often one at an edge.
func drawRate(r *rand.Rand) api.Freq {
	if r.IntN(6) == 0 {
		return rates[r.IntN(len(rates))].f
	}
	return api.Freq(r.Uint64()) >> r.IntN(64)
}
