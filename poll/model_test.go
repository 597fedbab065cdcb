package poll_test

import (
	"math"
	"math/big"
	"math/rand/v2"
	"testing"

	"foliot/api"
	"foliot/poll"
)

const (
	latest   = 1 << 30
	least    = math.MinInt
	greatest = math.MaxInt
)

// The signatures that the chapter lists.
var (
	_ func(a api.Assoc, now, draw int) (*poll.Poll, api.Errno) = poll.New
	_ func(p *poll.Poll, now int) bool                         = (*poll.Poll).Due
	_ func(p *poll.Poll, now, system int)                      = (*poll.Poll).Sent
	_ func(p *poll.Poll, now int)                              = (*poll.Poll).Heard
	_ func(p *poll.Poll, now, exponent int)                    = (*poll.Poll).Kissed
	_ func(p *poll.Poll) int                                   = (*poll.Poll).Next
	_ func(p *poll.Poll) int                                   = (*poll.Poll).Exponent
	_ func(p *poll.Poll) int                                   = (*poll.Poll).Reach
	_ func(p *poll.Poll) int                                   = (*poll.Poll).Gone
)

// model says the promises by all rounds that ever began: a round is a question, or a burst of them.
type model struct {
	assoc    api.Assoc
	rounds   []round // the first stands for what lies ahead of all questions
	floors   []int   // the exponents that kisses asked for
	exponent int
	next     int
}

type round struct {
	answered    bool
	asked, size int
}

// told is what a poll tells.
type told struct{ next, exponent, reach, gone int }

func modelOf(a api.Assoc, now, draw int) *model {
	rest := new(big.Int)
	if draw >= 0 {
		rest.Mod(big.NewInt(int64(draw)), new(big.Int).Exp(big.NewInt(2), big.NewInt(int64(a.MinPoll)), nil))
	}
	return &model{assoc: a, rounds: make([]round, 1), exponent: a.MinPoll, next: nearest(now, 0, latest) + int(rest.Int64())}
}

// nearest is the number from low to high that is nearest to x.
func nearest(x, low, high int) int {
	if x < low {
		return low
	}
	if x > high {
		return high
	}
	return x
}

// pow is 2^n.
func pow(n int) int { return int(math.Pow(2, float64(n))) }

func (m *model) newest() *round { return &m.rounds[len(m.rounds)-1] }

func (m *model) left() int { return m.newest().size - m.newest().asked }

// reach has a bit for each of the last eight rounds.
func (m *model) reach() int {
	sum := 0
	for i := range 8 {
		if k := len(m.rounds) - 1 - i; k >= 0 && m.rounds[k].answered {
			sum += pow(i)
		}
	}
	return sum
}

// gone counts the rounds since the last that was answered; of those the first seven began while it was still remembered.
func (m *model) gone() int {
	for i := range m.rounds {
		if m.rounds[len(m.rounds)-1-i].answered {
			return nearest(i-7, 0, 100)
		}
	}
	return nearest(len(m.rounds)-1, 0, 100)
}

func (m *model) minPoll() int {
	floor := m.assoc.MinPoll
	for _, f := range m.floors {
		if f > floor {
			floor = f
		}
	}
	return floor
}

func (m *model) told() told {
	return told{next: m.next, exponent: m.exponent, reach: m.reach(), gone: m.gone()}
}

// sent says P11.3.
func (m *model) sent(now, system int) {
	if m.left() == 0 {
		m.rounds = append(m.rounds, round{size: 1})
		m.exponent = nearest(system, m.minPoll(), m.assoc.MaxPoll)
		for i := 13; i <= m.gone() && m.exponent < m.assoc.MaxPoll; i++ {
			m.exponent++
		}
		heard := m.reach() != 0
		if (heard && m.assoc.Burst || !heard && m.assoc.Iburst) && m.gone() < 13 {
			m.newest().size += 5
		}
	}
	m.newest().asked++
	m.next = nearest(now, 0, latest) + 2
	if m.left() == 0 {
		m.next += pow(m.exponent) - 2
	}
}

// kissed says P11.4.
func (m *model) kissed(now, exponent int) {
	m.floors = append(m.floors, nearest(exponent, m.exponent, m.assoc.MaxPoll))
	m.exponent = m.minPoll()
	m.newest().size = m.newest().asked
	m.next = nearest(now, 0, latest) + pow(m.exponent)
}

// pair is a poll beside what the promises say of it; behind each call all that it tells is held against them.
type pair struct {
	t *testing.T
	p *poll.Poll
	m *model
}

func pairOf(t *testing.T, a api.Assoc, now, draw int) *pair {
	t.Helper()
	p, err := poll.New(a, now, draw)
	if err != api.OK {
		t.Fatalf("New(%+v, %d, %d) is refused: %d", a, now, draw, err)
	}
	x := &pair{t: t, p: p, m: modelOf(a, now, draw)}
	x.check()
	return x
}

func (x *pair) sent(now, system int) {
	x.t.Helper()
	x.p.Sent(now, system)
	x.m.sent(now, system)
	x.check()
}

func (x *pair) heard(now int) {
	x.t.Helper()
	x.p.Heard(now)
	x.m.newest().answered = true
	x.check()
}

func (x *pair) kissed(now, exponent int) {
	x.t.Helper()
	x.p.Kissed(now, exponent)
	x.m.kissed(now, exponent)
	x.check()
}

func tells(p *poll.Poll) told {
	return told{next: p.Next(), exponent: p.Exponent(), reach: p.Reach(), gone: p.Gone()}
}

func (x *pair) check() {
	x.t.Helper()
	if got, want := tells(x.p), x.m.told(); got != want {
		x.t.Fatalf("it tells %+v, not %+v, behind %d rounds", got, want, len(x.m.rounds)-1)
	}
	for _, now := range []int{least, -1, 0, 1, x.m.next - 1, x.m.next, x.m.next + 1, latest - 1, latest, latest + 1, greatest} {
		want := nearest(now, 0, latest) >= x.m.next
		if got := x.p.Due(now); got != want {
			x.t.Fatalf("Due(%d) is %v, though the next is at %d", now, got, x.m.next)
		}
	}
}

// is holds what is told against what is written out.
func (x *pair) is(want told) {
	x.t.Helper()
	if got := tells(x.p); got != want {
		x.t.Fatalf("it tells %+v, not %+v", got, want)
	}
}

// unheard sends n rounds that nobody answers, each at 0.
func (x *pair) unheard(n, system int) {
	x.t.Helper()
	for range n {
		x.sent(0, system)
		x.endRound(0)
	}
}

// endRound sends what is left of a burst.
func (x *pair) endRound(now int) {
	x.t.Helper()
	for x.m.left() > 0 {
		x.sent(now, 0)
	}
}

// kinds are Burst and Iburst, each alone, both, and none.
func kinds(low, high int) []api.Assoc {
	return []api.Assoc{
		{MinPoll: low, MaxPoll: high},
		{MinPoll: low, MaxPoll: high, Burst: true},
		{MinPoll: low, MaxPoll: high, Iburst: true},
		{MinPoll: low, MaxPoll: high, Burst: true, Iburst: true},
	}
}

// drawTime draws a time, often one at an edge.
func drawTime(r *rand.Rand) int {
	edges := []int{least, -1, 0, 1, latest - 1, latest, latest + 1, greatest}
	if r.IntN(3) == 0 {
		return edges[r.IntN(len(edges))]
	}
	return r.IntN(1 << 20)
}

// drawExponent draws an exponent, now and then one that is none.
func drawExponent(r *rand.Rand) int {
	edges := []int{least, -1, 63, 64, 1 << 40, greatest}
	if r.IntN(8) == 0 {
		return edges[r.IntN(len(edges))]
	}
	return r.IntN(13)
}

func drawAssoc(r *rand.Rand) api.Assoc {
	low := 3 + r.IntN(8)
	return api.Assoc{MinPoll: low, MaxPoll: low + r.IntN(11-low), Burst: r.IntN(2) == 0, Iburst: r.IntN(2) == 0}
}
