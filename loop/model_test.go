package loop_test

import (
	"math"
	"math/big"
	"math/rand/v2"
	"testing"

	"foliot/api"
	"foliot/loop"
)

const (
	latest   = 1 << 30
	least    = math.MinInt
	greatest = math.MaxInt
	lowest   = api.Span(math.MinInt64)
	top      = api.Span(math.MaxInt64)
	most     = api.MaxSpan
	second   = api.Second
	milli    = second >> 10
	fastest  = api.MaxFreq
)

// The states' numbers.
const (
	never = iota
	filed
	spike
	measuring
	steady
)

// The signatures that the chapter lists.
var (
	_ func(c api.Config, f api.Freq, has bool) *loop.Loop                              = loop.New
	_ func(l *loop.Loop, offset, jitter api.Span, now int) (action int, step api.Span) = (*loop.Loop).Update
	_ func(l *loop.Loop) api.Span                                                      = (*loop.Loop).Tick
	_ func(l *loop.Loop) api.Freq                                                      = (*loop.Loop).Freq
	_ func(l *loop.Loop) int                                                           = (*loop.Loop).State
	_ func(l *loop.Loop) int                                                           = (*loop.Loop).Poll
	_ func(l *loop.Loop) api.Span                                                      = (*loop.Loop).Left
)

// deed is what becomes of an offset.
type deed int

const (
	nothing deed = iota
	begins       // it is taken, and nothing else
	spikes
	steps
	follows
)

// turning is what becomes of the rate ahead of that.
type turning int

const (
	stays turning = iota
	measured
	adjusted
)

// asked is what P15.2 asks for: of which state, an offset above STEP or not, STEPOUT gone by or not.
type asked struct {
	state       int
	large, late bool
}

// outcome is what it says of that.
type outcome struct {
	turning
	deed
	state int
}

// outcomes are P15.2's, each written out.
var outcomes = map[asked]outcome{
	{never, false, false}:     {stays, begins, measuring},
	{never, false, true}:      {stays, begins, measuring},
	{never, true, false}:      {stays, steps, measuring},
	{never, true, true}:       {stays, steps, measuring},
	{filed, false, false}:     {stays, follows, steady},
	{filed, false, true}:      {stays, follows, steady},
	{filed, true, false}:      {stays, steps, steady},
	{filed, true, true}:       {stays, steps, steady},
	{spike, false, false}:     {adjusted, follows, steady},
	{spike, false, true}:      {adjusted, follows, steady},
	{spike, true, false}:      {stays, nothing, spike},
	{spike, true, true}:       {stays, steps, steady},
	{measuring, false, false}: {stays, nothing, measuring},
	{measuring, false, true}:  {measured, follows, steady},
	{measuring, true, false}:  {stays, nothing, measuring},
	{measuring, true, true}:   {measured, steps, steady},
	{steady, false, false}:    {adjusted, follows, steady},
	{steady, false, true}:     {adjusted, follows, steady},
	{steady, true, false}:     {stays, spikes, spike},
	{steady, true, true}:      {stays, spikes, spike},
}

// model says the promises by numbers without end, and by all that counted since the beginning.
type model struct {
	step, panics *big.Int
	stepout      int
	state        int
	rate         *big.Int
	left         *big.Int
	bases        []*big.Int // all that BASE was
	whens        []int      // all that WHEN was
	exponent     int
	points       []int // what was added to TALLY since it was 0
}

// told is what a loop tells.
type told struct {
	rate  api.Freq
	state int
	poll  int
	left  api.Span
}

func number(n int64) *big.Int { return big.NewInt(n) }

func plus(a, b *big.Int) *big.Int { return new(big.Int).Add(a, b) }

func minus(a, b *big.Int) *big.Int { return new(big.Int).Sub(a, b) }

func times(a *big.Int, b ...*big.Int) *big.Int {
	product := a
	for _, x := range b {
		product = new(big.Int).Mul(product, x)
	}
	return product
}

// over is the greatest whole number that is not above a / b; b is above 0.
func over(a, b *big.Int) *big.Int { return new(big.Int).Div(a, b) }

func pow(n int) *big.Int { return new(big.Int).Exp(number(2), number(int64(n)), nil) }

// within is the number from low to high that is nearest to x.
func within(x, low, high *big.Int) *big.Int {
	if x.Cmp(low) < 0 {
		return low
	}
	if x.Cmp(high) > 0 {
		return high
	}
	return x
}

// both is x, cut at limit and its negative.
func both(x, limit *big.Int) *big.Int { return within(x, new(big.Int).Neg(limit), limit) }

func saturated(x *big.Int) *big.Int { return both(x, pow(62)) }

func cut(x *big.Int) *big.Int { return both(x, number(140737488355)) }

func nearest(x, low, high int) int {
	return int(within(number(int64(x)), number(int64(low)), number(int64(high))).Int64())
}

func modelOf(c api.Config, f api.Freq, has bool) *model {
	m := &model{
		step:     within(number(int64(c.Step)), number(1), pow(62)),
		panics:   within(number(int64(c.Panic)), number(1), pow(62)),
		stepout:  nearest(c.Stepout, 0, 1<<20),
		rate:     number(0),
		left:     number(0),
		bases:    []*big.Int{number(0)},
		whens:    []int{0},
		exponent: 3,
	}
	if has {
		m.state, m.rate = filed, cut(number(int64(f)))
	}
	return m
}

func (m *model) base() *big.Int { return m.bases[len(m.bases)-1] }

func (m *model) since(now int) int {
	return nearest(nearest(now, 0, latest)-m.whens[len(m.whens)-1], 0, latest)
}

func (m *model) tally() int {
	sum := 0
	for _, p := range m.points {
		sum += p
	}
	return sum
}

func (m *model) told() told {
	return told{rate: api.Freq(m.rate.Int64()), state: m.state, poll: m.exponent, left: api.Span(m.left.Int64())}
}

// gap is how fast the clock went since BASE, by so many times the seconds that went by.
func (m *model) gap(offset *big.Int, count, seconds int) *big.Int {
	length := saturated(times(number(int64(count)), number(int64(seconds)), pow(32)))
	return cut(over(times(saturated(minus(offset, m.base())), pow(48)), length))
}

// turn says what becomes of the rate.
func (m *model) turn(how turning, offset *big.Int, now int) {
	d := nearest(m.since(now), 1, latest)
	x := number(0)
	switch {
	case how == measured:
		x = m.gap(offset, 1, d)
	case how == adjusted && d > 2048:
		x = m.gap(offset, 8, d)
	case how == adjusted:
		part := within(number(int64(d)), number(0), pow(m.exponent))
		x = cut(over(times(offset, part, pow(8)), pow(2*m.exponent)))
	}
	m.rate = cut(plus(m.rate, x))
}

// weigh says what becomes of TALLY.
func (m *model) weigh(size, jitter *big.Int) {
	point := m.exponent
	if size.Cmp(saturated(times(jitter, number(4)))) >= 0 {
		point *= -2
	}
	m.points = append(m.points, point)
	if m.tally() > 30 {
		m.exponent, m.points = nearest(m.exponent+1, 3, 10), nil
	} else if m.tally() < -30 {
		m.exponent, m.points = nearest(m.exponent-1, 3, 10), nil
	}
}

// update says P15.2.
func (m *model) update(offset, jitter api.Span, now int) (int, api.Span) {
	o := saturated(number(int64(offset)))
	size := new(big.Int).Abs(o)
	if size.Cmp(m.panics) > 0 {
		return api.ActPanic, 0
	}
	is := outcomes[asked{m.state, size.Cmp(m.step) > 0, m.since(now) >= m.stepout}]
	m.turn(is.turning, o, now)
	m.state = is.state
	if is.deed != nothing {
		m.whens = append(m.whens, nearest(now, 0, latest))
	}
	switch is.deed {
	case begins:
		m.bases = append(m.bases, o)
	case steps:
		m.bases = append(m.bases, number(0))
		m.left, m.exponent, m.points = number(0), 3, nil
		return api.ActStep, api.Span(o.Int64())
	case follows:
		m.bases = append(m.bases, o)
		m.left = o
		m.weigh(size, number(int64(jitter)))
		return api.ActSlew, 0
	}
	return api.ActNone, 0
}

// tick says P15.3.
func (m *model) tick() api.Span {
	slewed := over(m.left, pow(m.exponent+2))
	m.left = minus(m.left, slewed)
	return api.Span(slewed.Int64())
}

// pair is a loop beside what the promises say of it; behind each call all that it tells is held against them.
type pair struct {
	t *testing.T
	l *loop.Loop
	m *model
}

func pairOf(t *testing.T, c api.Config, f api.Freq, has bool) *pair {
	t.Helper()
	x := &pair{t: t, l: loop.New(c, f, has), m: modelOf(c, f, has)}
	x.check()
	return x
}

func tells(l *loop.Loop) told {
	return told{rate: l.Freq(), state: l.State(), poll: l.Poll(), left: l.Left()}
}

// check asks twice, as what is asked changes nothing.
func (x *pair) check() {
	x.t.Helper()
	for range 2 {
		if got, want := tells(x.l), x.m.told(); got != want {
			x.t.Fatalf("it tells %+v, not %+v", got, want)
		}
	}
}

func (x *pair) update(offset, jitter api.Span, now int) (int, api.Span) {
	x.t.Helper()
	was := x.m.told()
	action, step := x.l.Update(offset, jitter, now)
	if wantAction, wantStep := x.m.update(offset, jitter, now); action != wantAction || step != wantStep {
		x.t.Fatalf("of %+v Update(%d, %d, %d) is %d, %d, not %d, %d", was, offset, jitter, now, action, step, wantAction, wantStep)
	}
	x.check()
	return action, step
}

func (x *pair) tick() api.Span {
	x.t.Helper()
	was := x.m.told()
	slewed := x.l.Tick()
	if want := x.m.tick(); slewed != want {
		x.t.Fatalf("of %+v Tick is %d, not %d", was, slewed, want)
	}
	x.check()
	return slewed
}

// acts says an answer once more, written out.
func (x *pair) acts(offset, jitter api.Span, now, action int) {
	x.t.Helper()
	want := api.Span(0)
	if action == api.ActStep {
		want = api.Span(saturated(number(int64(offset))).Int64())
	}
	if got, step := x.update(offset, jitter, now); got != action || step != want {
		x.t.Fatalf("Update(%d, %d, %d) is %d, %d, not %d, %d", offset, jitter, now, got, step, action, want)
	}
}

// is holds what is told against what is written out.
func (x *pair) is(want told) {
	x.t.Helper()
	if got := tells(x.l); got != want {
		x.t.Fatalf("it tells %+v, not %+v", got, want)
	}
}

// config is an ordinary one: 128 thousandths, 1000 seconds, 300.
func config() api.Config { return api.Config{Step: 549755813, Panic: 1000 * second, Stepout: 300} }

// wide lets every offset be slewed, so that nothing but the rate's own limits counts.
func wide() api.Config { return api.Config{Step: most, Panic: most, Stepout: 300} }

// brought brings a loop of the ordinary configuration into a state at a time (never and filed have none), its rate 0, if nothing told it, else 5, or more.
func brought(t *testing.T, state, at int) *pair {
	t.Helper()
	x := pairOf(t, config(), 5, state != never && state != measuring)
	switch state {
	case measuring:
		x.acts(milli, milli, at, api.ActNone)
	case spike, steady:
		x.acts(milli, milli, at, api.ActSlew)
	}
	if state == spike {
		x.acts(2*second, milli, at, api.ActNone)
	}
	if x.l.State() != state {
		t.Fatalf("the state is %d, not %d", x.l.State(), state)
	}
	return x
}

// raised brings a loop to a poll's exponent by offsets of 0, which leave its rate as it is: at the time 0, TALLY 0.
func raised(t *testing.T, c api.Config, f api.Freq, exponent int) *pair {
	t.Helper()
	x := pairOf(t, c, f, true)
	for range 6 {
		x.acts(0, 0, 0, api.ActSlew)
	}
	for x.l.Poll() < exponent {
		x.acts(0, 1, 0, api.ActSlew)
	}
	x.is(told{rate: f, state: steady, poll: exponent})
	return x
}

// edgeTimes are what is handed in as a time beside what it counts as.
var edgeTimes = []struct{ now, counts int }{
	{least, 0}, {-latest, 0}, {-1, 0}, {0, 0}, {1, 1},
	{latest - 1, latest - 1}, {latest, latest}, {latest + 1, latest}, {greatest, latest},
}

func drawer(seed uint64) *rand.Rand { return rand.New(rand.NewPCG(15, seed)) }

// drawSpan draws a span of any size, often one at an edge.
func drawSpan(r *rand.Rand) api.Span {
	edges := []api.Span{lowest, lowest + 1, -most - 1, -most, 1 - most, -second, -1, 0, 1, second, most - 1, most, most + 1, top}
	if r.IntN(8) == 0 {
		return edges[r.IntN(len(edges))]
	}
	return api.Span(r.Uint64()) >> r.IntN(64)
}

// drawOrdinary draws an offset that is slewed, stepped or given up at by the ordinary configuration.
func drawOrdinary(r *rand.Rand) api.Span {
	sign := api.Span(1 - 2*r.IntN(2))
	switch n := r.IntN(20); {
	case n == 0:
		return sign * (1000*second + api.Span(r.IntN(2)))
	case n < 8:
		return sign * (549755813 + api.Span(r.IntN(2)))
	default:
		return sign * api.Span(r.IntN(549755813)>>r.IntN(30))
	}
}
