package clock_test

import (
	"math/rand/v2"
	"testing"

	"foliot/api"
	"foliot/clock"
	"foliot/stamp"
)

// The examples of the chapter.
func TestExamples(t *testing.T) {
	x := pairOf(t, stamp.Date{At: 10 * s}, 5, 0)
	if x.c.Now() != 10*s+5 || x.c.True() != 10*s || x.c.Error() != 5 {
		t.Errorf("it tells %+v", tells(x.c))
	}
	x.setRate(65536*3 + 1)
	x.passes(1, 8)
	x.passes(65535, 5+3*65536+1)
	x.refuses(-1)
	x.refuses(1048577)
	was := x.c.Now() - x.c.True()
	x.step(-2 * second)
	if is := x.c.Now() - x.c.True(); is != was-2*s {
		t.Errorf("Now less True is %d", is)
	}
	x = pairOf(t, stamp.Date{At: 86398 * s}, 0, 0)
	x.orders(api.LeapInsert)
	x.passes(2, -second)
	x.passes(1, -second)
	if x.setLeap(3) {
		t.Error("SetLeap(3) is true")
	}
	x.setRate(65536)
	if at := x.c.At(second); at != x.c.Now()+s+1 {
		t.Errorf("At(s) is %d", at)
	}
}

// P16.6: behind n seconds the error is n times the rate and the frequency more, divided down, up to all that may pass.
func TestErrorOfManySeconds(t *testing.T) {
	for _, rate := range []api.Freq{0, 1, -1, 7, -7, 65535, -65535, 65536, 65537, -65537, fastest, -fastest} {
		for _, freq := range []api.Freq{0, 1, -1, 65535, fastest, -fastest} {
			for _, n := range []int{0, 1, 2, 3, 1000, 65535, 65536, 65537} {
				c := clock.New(stamp.Date{At: 5 * s}, 77, rate)
				c.SetFreq(freq)
				if e := c.Pass(n); e != api.OK || c.Error() != 77+(api.Span(n)*api.Span(rate+freq))>>16 {
					t.Errorf("with the rate %d and the frequency %d, behind %d seconds the error is %d", rate, freq, n, c.Error())
				}
			}
		}
	}
	for _, rate := range []api.Freq{12345, -fastest, fastest} {
		c := clock.New(stamp.Date{At: 5 * s}, 77, rate)
		if e := c.Pass(life); e != api.OK || c.Error() != 77+api.Span(rate)*16 {
			t.Errorf("with the rate %d, at the end the error is %d", rate, c.Error())
		}
	}
}

// P16.6: it does not matter how seconds are parted among calls: with rates, a rest, a leap, an error that saturates, an era's end.
func TestParted(t *testing.T) {
	r := drawer(3)
	for round := range 300 {
		begin := stamp.Date{Era: r.IntN(5) - 2, At: last - s*api.Stamp(r.IntN(3000))}
		if round%2 == 0 {
			begin = dateAt(r.IntN(100)*day - r.IntN(3000))
		}
		error, rate, freq, leap := drawSpan(r), drawRate(r), drawRate(r), r.IntN(3)
		if round%4 == 0 {
			error %= 5 * second
		}
		whole, parted := clock.New(begin, error, rate), pairOf(t, begin, error, rate)
		whole.SetFreq(freq)
		whole.SetLeap(leap)
		parted.setFreq(freq)
		parted.orders(leap)
		all := 3000
		whole.Pass(all)
		for all > 0 {
			n := min(r.IntN(all+1)>>r.IntN(8), all)
			parted.pass(n)
			all -= n
		}
		if got, want := tells(parted.c), tells(whole); got != want {
			t.Fatalf("in parts it comes to %+v, not %+v", got, want)
		}
		if whole.Pass(9) != parted.c.Pass(9) || tells(whole) != tells(parted.c) {
			t.Fatalf("a little later it is %+v, not %+v", tells(parted.c), tells(whole))
		}
	}
}

// drawBegin draws a date, often one just ahead of the end of a day or of an era.
func drawBegin(r *rand.Rand) stamp.Date {
	switch r.IntN(4) {
	case 0:
		return dateAt((r.IntN(100000)-50000)*day - r.IntN(50))
	case 1:
		return stamp.Date{Era: r.IntN(3) - 2, At: last - s*api.Stamp(r.IntN(50))}
	case 2:
		return stamp.Date{Era: eras[r.IntN(len(eras))].given, At: stamps[r.IntN(len(stamps))]}
	default:
		return stamp.Date{Era: r.IntN(2010) - 1005, At: api.Stamp(r.Uint64())}
	}
}

func drawPair(t *testing.T, r *rand.Rand) *pair {
	t.Helper()
	error := drawSpan(r)
	if r.IntN(2) == 0 {
		error = api.Span(r.IntN(100)-50) * second
	}
	return pairOf(t, drawBegin(r), error, drawRate(r))
}

// toADaysEnd steps the clock near to the end of its day, or of the day ahead of it.
func (x *pair) toADaysEnd(r *rand.Rand) {
	x.t.Helper()
	gone := left(x.m.date(), aDay).Int64()
	if r.IntN(2) == 0 {
		gone -= aDay.Int64()
	}
	x.step(api.Span(-gone - r.Int64N(int64(5*second))>>(32*r.IntN(2))))
}

// call draws one call, and holds it against all that is promised.
func (x *pair) call(r *rand.Rand) {
	x.t.Helper()
	switch r.IntN(12) {
	case 0:
		x.slew(drawSpan(r))
	case 1:
		x.step(drawSpan(r))
	case 2:
		x.slew(api.Span(r.IntN(11)-5) * second)
	case 3:
		x.setFreq(drawRate(r))
	case 4:
		x.setRate(drawRate(r))
	case 5:
		x.setLeap(r.IntN(5) - 1)
	case 6, 7:
		x.toADaysEnd(r)
	case 8:
		x.pass(refused[r.IntN(len(refused))])
	case 9:
		after := drawSpan(r)
		if got, want := x.c.At(after), x.m.at(after); got != want {
			x.t.Fatalf("of %+v At(%d) is %d, not %d", tells(x.c), after, got, want)
		}
	default:
		x.pass(r.IntN(200) >> r.IntN(8))
	}
}

// P16.1 to P16.6: drawn calls of two clocks side by side: each tells what its own calls ask.
func TestDrawn(t *testing.T) {
	r := drawer(4)
	leapt := map[int]int{}
	for range 600 {
		pairs := [2]*pair{drawPair(t, r), drawPair(t, r)}
		for range 150 {
			x := pairs[r.IntN(2)]
			ordered := x.m.leap
			seconds := x.m.passed
			x.call(r)
			if x.m.passed > seconds && x.m.leap != ordered {
				leapt[ordered]++
			}
		}
	}
	for _, leap := range []int{api.LeapInsert, api.LeapDelete} {
		if leapt[leap] < 200 {
			t.Errorf("the leap %d came %d times", leap, leapt[leap])
		}
	}
}

// Rules: two clocks know nothing of one another.
func TestTwoClocks(t *testing.T) {
	begin := dateAt(day - 5)
	a, b := pairOf(t, begin, 5, 65535), pairOf(t, begin, 5, 65535)
	was := tells(b.c)
	a.passes(3, 7)
	a.orders(api.LeapInsert)
	a.setFreq(9)
	a.setRate(8)
	a.slew(second)
	a.passes(1, 8)
	a.step(second)
	if got := tells(b.c); got != was {
		t.Errorf("it tells %+v, not %+v", got, was)
	}
	b.passes(10, 14)
	b.rests(65536 - 10)
	a.passes(life-4, 8+second+271)
	a.refuses(1)
	b.passes(1, 15)
}
