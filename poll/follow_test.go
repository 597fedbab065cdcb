package poll_test

import (
	"math/rand/v2"
	"slices"
	"testing"

	"foliot/api"
	"foliot/poll"
)

// deed is one call that changes a poll.
type deed struct{ kind, now, number int }

const (
	sends = iota
	hears
	kisses
)

func (x *pair) do(d deed) {
	x.t.Helper()
	switch d.kind {
	case sends:
		x.sent(d.now, d.number)
	case hears:
		x.heard(d.now)
	case kisses:
		x.kissed(d.now, d.number)
	}
}

// doTo is the call alone, without anything beside it.
func doTo(p *poll.Poll, d deed) {
	switch d.kind {
	case sends:
		p.Sent(d.now, d.number)
	case hears:
		p.Heard(d.now)
	case kisses:
		p.Kissed(d.now, d.number)
	}
}

// drawDeed draws a call: most are questions, so that some polls go unanswered for long.
func drawDeed(r *rand.Rand, quiet bool) deed {
	d := deed{now: drawTime(r), number: drawExponent(r)}
	if n := r.IntN(40); n == 0 {
		d.kind = kisses
	} else if n < 8 && !quiet {
		d.kind = hears
	}
	return d
}

// P11.1 to P11.5: drawn calls of two polls side by side: each tells what its own calls ask, and stays within its limits.
func TestPollsDrawn(t *testing.T) {
	r := rand.New(rand.NewPCG(11, 1))
	bursts, raised, kept := 0, 0, 0
	for range 400 {
		pairs := []*pair{pairOf(t, drawAssoc(r), drawTime(r), r.Int()), pairOf(t, drawAssoc(r), drawTime(r), -r.Int())}
		for i := range 400 {
			x := pairs[r.IntN(2)]
			x.do(drawDeed(r, i/100%2 == 0))
			e, low, high := x.p.Exponent(), x.m.minPoll(), x.m.assoc.MaxPoll
			if e < low || e > high {
				t.Fatalf("the exponent is %d, not from %d to %d", e, low, high)
			}
			if x.m.left() > 0 {
				bursts++
			}
			if x.p.Gone() > 12 && e < high {
				raised++
			}
			if len(x.m.floors) > 0 && e == low {
				kept++
			}
		}
		for _, x := range pairs {
			x.check()
		}
	}
	if bursts < 1000 || raised < 100 || kept < 1000 {
		t.Errorf("too few were drawn: %d, %d, %d", bursts, raised, kept)
	}
}

// question is one that was sent: when, and 2^MinPoll by then.
type question struct{ at, length int }

// askInTime lets a poll be asked when it is due, or some time later, heard and kissed in between, and tells all questions.
func askInTime(x *pair, r *rand.Rand, now int) []question {
	var asked []question
	for range 300 {
		if now < x.p.Next() {
			now = x.p.Next()
		}
		if !x.p.Due(now) || x.p.Due(x.p.Next()-1) {
			x.t.Fatalf("what is due at %d is told wrongly", x.p.Next())
		}
		if r.IntN(4) == 0 {
			now += r.IntN(50)
		}
		asked = append(asked, question{now, pow(x.m.minPoll())})
		x.sent(now, r.IntN(13))
		for r.IntN(4) == 0 {
			now += r.IntN(4)
			x.heard(now)
		}
		if r.IntN(30) == 0 {
			now += r.IntN(4)
			x.kissed(now, r.IntN(13))
		}
	}
	return asked
}

// P11.5: two seconds at least lie between two questions, and more than 2^MinPoll behind six of them, MinPoll as it is when the seventh is sent.
func TestHeadway(t *testing.T) {
	r := rand.New(rand.NewPCG(11, 5))
	gap, beyond := 1<<20, 1<<20 // the least that there were
	for range 100 {
		for low := 3; low <= 10; low++ {
			for _, a := range kinds(low, low+r.IntN(11-low)) {
				now := r.IntN(1000)
				asked := askInTime(pairOf(t, a, now, r.Int()), r, now)
				for i, q := range asked {
					if i >= 1 {
						gap = min(gap, q.at-asked[i-1].at)
					}
					if i >= 6 {
						beyond = min(beyond, q.at-asked[i-6].at-q.length)
					}
				}
			}
		}
	}
	if gap != 2 {
		t.Errorf("%d seconds lie between two questions", gap)
	}
	if beyond != 10 {
		t.Errorf("%d seconds more than 2^MinPoll lie behind six questions", beyond)
	}
}

// P11.5: whoever is not heard for eight rounds, whatever came ahead and whatever kisses come in between, has REACH 0, and till then not.
func TestEightUnheard(t *testing.T) {
	r := rand.New(rand.NewPCG(11, 8))
	for range 200 {
		for _, a := range kinds(3+r.IntN(4), 7+r.IntN(4)) {
			x := pairOf(t, a, 0, 0)
			for range r.IntN(100) {
				x.do(drawDeed(r, false))
			}
			x.endRound(0)
			x.heard(0)
			for i := 1; i <= 8; i++ {
				if x.p.Reach() == 0 {
					t.Fatalf("REACH is 0 behind %d rounds", i-1)
				}
				x.sent(drawTime(r), drawExponent(r))
				if r.IntN(3) == 0 {
					x.kissed(drawTime(r), drawExponent(r))
				}
				x.endRound(drawTime(r))
			}
			if x.p.Reach() != 0 {
				t.Fatalf("REACH is %d behind eight rounds", x.p.Reach())
			}
		}
	}
}

// R3: two polls of one association know nothing of one another.
func TestTwoPolls(t *testing.T) {
	for _, a := range kinds(4, 8) {
		one, other := pairOf(t, a, 10, 3), pairOf(t, a, 10, 3)
		for i := range 30 {
			one.sent(20*i, 6)
			if i%9 == 4 {
				one.heard(20 * i)
			}
			if i == 20 {
				one.kissed(20*i, 7)
			}
			other.check()
			other.is(told{next: 13, exponent: 4})
		}
		other.sent(13, 4)
		one.check()
	}
}

// R3: an association that was handed in may be changed behind it.
func TestAssocIsNotKept(t *testing.T) {
	a := api.Assoc{MinPoll: 4, MaxPoll: 6, Iburst: true}
	x := pairOf(t, a, 0, 0)
	a.MinPoll, a.MaxPoll, a.Iburst = 10, 10, false
	x.sent(0, 5)
	x.is(told{next: 2, exponent: 5, gone: 1})
}

// R2, R5: the same calls tell the same, with refused ones in between too.
func TestOneAnswer(t *testing.T) {
	r := rand.New(rand.NewPCG(11, 9))
	for range 50 {
		a, now, draw := drawAssoc(r), drawTime(r), r.Int()
		deeds := make([]deed, 200)
		for i := range deeds {
			deeds[i] = drawDeed(r, i > 100)
		}
		first := story(t, a, now, draw, deeds, false)
		if !slices.Equal(first, story(t, a, now, draw, deeds, true)) {
			t.Fatalf("%+v tells another story", a)
		}
	}
}

func story(t *testing.T, a api.Assoc, now, draw int, deeds []deed, refused bool) []told {
	p, err := poll.New(a, now, draw)
	if err != api.OK {
		t.Fatal(err)
	}
	l := []told{tells(p)}
	for _, d := range deeds {
		if refused {
			poll.New(api.Assoc{MinPoll: 5, MaxPoll: 4}, d.now, d.number)
		}
		doTo(p, d)
		l = append(l, tells(p))
	}
	return l
}
