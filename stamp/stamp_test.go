package stamp_test

import (
	"math"
	"math/big"
	"math/rand/v2"
	"testing"

	"foliot/api"
	"foliot/stamp"
)

const (
	most    = api.MaxSpan
	top     = api.Span(math.MaxInt64)
	least   = api.Span(math.MinInt64)
	last    = api.Stamp(math.MaxUint64) // the last stamp of an era
	halfEra = api.Stamp(1) << 63
)

// The signatures and the types that the chapter lists.
var (
	_ func(a, b api.Stamp) api.Span                  = stamp.Since
	_ func(t api.Stamp, d api.Span) api.Stamp        = stamp.Plus
	_ func(d api.Span) uint32                        = stamp.ToShort
	_ func(n uint32) api.Span                        = stamp.FromShort
	_ func(t api.Stamp, pivot stamp.Date) stamp.Date = stamp.Unfold
	_ func(d stamp.Date) (stamp.Civil, api.Errno)    = stamp.OfDate
	_ func(c stamp.Civil) (stamp.Date, api.Errno)    = stamp.ToDate
	_ func(d stamp.Date) (string, api.Errno)         = stamp.Print
	_ func(s string) (stamp.Date, api.Errno)         = stamp.Parse

	_ = struct {
		Era int
		At  api.Stamp
	}(stamp.Date{})
	_ = struct {
		Year, Month, Day, Hour, Min, Sec int
		Frac                             uint32
	}(stamp.Civil{})
)

// A row is a call that was made, what it answered, and what the document asks.
type row[T comparable] struct {
	call      string
	got, want T
}

func check[T comparable](t *testing.T, rows []row[T]) {
	t.Helper()
	for _, r := range rows {
		if r.got != r.want {
			t.Errorf("%s is %v, not %v", r.call, r.got, r.want)
		}
	}
}

// words are numbers of 64 bits at which an answer may turn, and some of all lengths that are drawn, the same ones each time.
func words() []uint64 {
	var l []uint64
	for _, n := range []uint64{0, 1 << 16, 1 << 31, 1 << 32, 1 << 48, 1 << 62, 1 << 63, 3 << 62} {
		for d := range uint64(5) {
			l = append(l, n+d-2)
		}
	}
	r := rand.New(rand.NewPCG(3, 4))
	for range 300 {
		l = append(l, r.Uint64()>>r.IntN(64), -(r.Uint64() >> r.IntN(64)))
	}
	return l
}

// The examples of the chapter that tell of stamps and spans.
func TestExamples(t *testing.T) {
	check(t, []row[api.Span]{
		{"Since(1, 2^64 - 1)", stamp.Since(1, last), 2},
		{"Since(0, 2^63)", stamp.Since(0, halfEra), -most},
		{"FromShort(65536)", stamp.FromShort(65536), api.Second},
	})
	check(t, []row[api.Stamp]{
		{"Plus(0, -1)", stamp.Plus(0, -1), last},
	})
	check(t, []row[uint32]{
		{"ToShort(1)", stamp.ToShort(1), 1},
		{"ToShort(0)", stamp.ToShort(0), 0},
		{"ToShort(-5)", stamp.ToShort(-5), 0},
		{"ToShort(2^16)", stamp.ToShort(1 << 16), 1},
		{"ToShort(2^16 + 1)", stamp.ToShort(1<<16 + 1), 2},
		{"ToShort(2^48)", stamp.ToShort(1 << 48), 1<<32 - 1},
	})
	check(t, []row[stamp.Date]{
		{"Unfold(5, era 0, At 2^64 - 1)", stamp.Unfold(5, stamp.Date{At: last}), stamp.Date{Era: 1, At: 5}},
		{"Unfold(2^63, era 0, At 0)", stamp.Unfold(halfEra, stamp.Date{}), stamp.Date{Era: -1, At: halfEra}},
	})
}

// P2.1: stamps half an era apart, spans at their cut, and sums that leave the era.
func TestSpansAtEdges(t *testing.T) {
	check(t, []row[api.Span]{
		{"Since(7, 7)", stamp.Since(7, 7), 0},
		{"Since(last, last)", stamp.Since(last, last), 0},
		{"Since(9, 7)", stamp.Since(9, 7), 2},
		{"Since(7, 9)", stamp.Since(7, 9), -2},
		{"Since(last, 0)", stamp.Since(last, 0), -1},
		{"Since(0, last)", stamp.Since(0, last), 1},
		{"Since(2^62 - 1, 0)", stamp.Since(1<<62-1, 0), most - 1},
		{"Since(2^62, 0)", stamp.Since(1<<62, 0), most},
		{"Since(2^62 + 1, 0)", stamp.Since(1<<62+1, 0), most},
		{"Since(0, 2^62 - 1)", stamp.Since(0, 1<<62-1), 1 - most},
		{"Since(0, 2^62)", stamp.Since(0, 1<<62), -most},
		{"Since(0, 2^62 + 1)", stamp.Since(0, 1<<62+1), -most},
		{"Since(2^63 - 1, 0)", stamp.Since(halfEra-1, 0), most},
		{"Since(2^63, 0)", stamp.Since(halfEra, 0), -most},
		{"Since(2^63 + 1, 0)", stamp.Since(halfEra+1, 0), -most},
		{"Since(0, 2^63 - 1)", stamp.Since(0, halfEra-1), -most},
		{"Since(0, 2^63 + 1)", stamp.Since(0, halfEra+1), most},
		{"Since(last, 2^63 - 1)", stamp.Since(last, halfEra-1), -most},
	})
	check(t, []row[api.Stamp]{
		{"Plus(7, 2)", stamp.Plus(7, 2), 9},
		{"Plus(7, -2)", stamp.Plus(7, -2), 5},
		{"Plus(7, 0)", stamp.Plus(7, 0), 7},
		{"Plus(last, 1)", stamp.Plus(last, 1), 0},
		{"Plus(last, MaxSpan)", stamp.Plus(last, most), 1<<62 - 1},
		{"Plus(0, -MaxSpan)", stamp.Plus(0, -most), 3 << 62},
		{"Plus(0, top), the span is not cut", stamp.Plus(0, top), halfEra - 1},
		{"Plus(0, least), the span is not cut", stamp.Plus(0, least), halfEra},
		{"Plus(2^63, least)", stamp.Plus(halfEra, least), 0},
	})
}

// wrapped is the number from low to low + 2^64 - 1 that is n, but for a multiple of 2^64.
func wrapped(n, low *big.Int) *big.Int {
	above := new(big.Int).Sub(n, low)
	return above.Mod(above, power(64)).Add(above, low)
}

func power(n uint) *big.Int { return new(big.Int).Lsh(big.NewInt(1), n) }

func natural(n uint64) *big.Int { return new(big.Int).SetUint64(n) }

func saturated(n *big.Int) api.Span {
	if n.CmpAbs(power(62)) > 0 {
		return most * api.Span(n.Sign())
	}
	return api.Span(n.Int64())
}

// P2.1: Since and Plus are the whole, but for a multiple of 2^64.
func TestSpansAreWhole(t *testing.T) {
	for _, a := range words() {
		for _, b := range words() {
			apart := new(big.Int).Sub(natural(a), natural(b))
			since := saturated(wrapped(apart, big.NewInt(math.MinInt64)))
			if got := stamp.Since(api.Stamp(a), api.Stamp(b)); got != since {
				t.Fatalf("Since(%d, %d) is %d, not %d", a, b, got, since)
			}
			sum := new(big.Int).Add(natural(a), big.NewInt(int64(b)))
			plus := api.Stamp(wrapped(sum, new(big.Int)).Uint64())
			if got := stamp.Plus(api.Stamp(a), api.Span(b)); got != plus {
				t.Fatalf("Plus(%d, %d) is %d, not %d", a, int64(b), got, plus)
			}
		}
	}
}

// P2.2: short forms at 0, below it, and at the most of 32 bits.
func TestShortsAtEdges(t *testing.T) {
	check(t, []row[uint32]{
		{"ToShort(-1)", stamp.ToShort(-1), 0},
		{"ToShort(-2^16)", stamp.ToShort(-1 << 16), 0},
		{"ToShort(-2^16 - 1)", stamp.ToShort(-1<<16 - 1), 0},
		{"ToShort(-MaxSpan)", stamp.ToShort(-most), 0},
		{"ToShort(least)", stamp.ToShort(least), 0},
		{"ToShort(2^16 - 1)", stamp.ToShort(1<<16 - 1), 1},
		{"ToShort(2^17)", stamp.ToShort(1 << 17), 2},
		{"ToShort(a second)", stamp.ToShort(api.Second), 65536},
		{"ToShort((2^32 - 2) 2^16)", stamp.ToShort((1<<32 - 2) << 16), 1<<32 - 2},
		{"ToShort((2^32 - 2) 2^16 + 1)", stamp.ToShort((1<<32-2)<<16 + 1), 1<<32 - 1},
		{"ToShort((2^32 - 1) 2^16)", stamp.ToShort((1<<32 - 1) << 16), 1<<32 - 1},
		{"ToShort((2^32 - 1) 2^16 + 1)", stamp.ToShort((1<<32-1)<<16 + 1), 1<<32 - 1},
		{"ToShort(2^48 + 1)", stamp.ToShort(1<<48 + 1), 1<<32 - 1},
		{"ToShort(2^48 + 2^16)", stamp.ToShort(1<<48 + 1<<16), 1<<32 - 1},
		{"ToShort(MaxSpan)", stamp.ToShort(most), 1<<32 - 1},
		{"ToShort(top)", stamp.ToShort(top), 1<<32 - 1},
	})
	check(t, []row[api.Span]{
		{"FromShort(0)", stamp.FromShort(0), 0},
		{"FromShort(1)", stamp.FromShort(1), 65536},
		{"FromShort(2^31)", stamp.FromShort(1 << 31), 1 << 47},
		{"FromShort(2^32 - 1)", stamp.FromShort(1<<32 - 1), 1<<48 - 1<<16},
	})
}

// P2.2: a short form is the least one that is not less than the span; what is told by one is told again.
func TestShortsRoundUp(t *testing.T) {
	for _, w := range words() {
		d := api.Span(w)
		n := stamp.ToShort(d)
		if n < 1<<32-1 && stamp.FromShort(n) < d {
			t.Fatalf("ToShort(%d) is %d: that is less", d, n)
		}
		if n > 0 && stamp.FromShort(n-1) >= d {
			t.Fatalf("ToShort(%d) is %d: one less would do", d, n)
		}
		if short := uint32(w); stamp.ToShort(stamp.FromShort(short)) != short {
			t.Fatalf("ToShort(FromShort(%d)) is %d", short, stamp.ToShort(stamp.FromShort(short)))
		}
	}
}

func moment(d stamp.Date) *big.Int {
	m := big.NewInt(int64(d.Era))
	return m.Lsh(m, 64).Add(m, natural(uint64(d.At)))
}

// P2.3: pivots half an era away, a little more and a little less, and of two dates as near the earlier one.
func TestUnfoldAtEdges(t *testing.T) {
	const era = 9
	for _, x := range []struct {
		t, pivot api.Stamp
		want     int
	}{
		{7, 7, era},
		{0, 0, era},
		{last, last, era},
		{0, last, era + 1},
		{last, 0, era - 1},
		{halfEra - 1, 0, era},
		{halfEra, 0, era - 1},
		{halfEra + 1, 0, era - 1},
		{0, halfEra - 1, era},
		{0, halfEra, era},
		{0, halfEra + 1, era + 1},
		{last, halfEra - 1, era - 1},
		{last, halfEra, era},
		{halfEra - 1, last, era},
		{halfEra - 2, last, era + 1},
		{halfEra, last, era},
		{5, halfEra + 5, era},
		{5, halfEra + 6, era + 1},
		{halfEra + 5, 5, era - 1},
		{halfEra + 5, 6, era},
	} {
		want := stamp.Date{Era: x.want, At: x.t}
		if got := stamp.Unfold(x.t, stamp.Date{Era: era, At: x.pivot}); got != want {
			t.Errorf("Unfold(%d, era %d, At %d) is %v, not %v", x.t, era, x.pivot, got, want)
		}
	}
}

// P2.3: no date with the same At is nearer to the pivot, nor as near and earlier, at the ends of the eras too.
func TestUnfoldIsNearest(t *testing.T) {
	eras := []int{-14, -1, 0, 1, 1 << 40, math.MinInt + 1, math.MaxInt - 1}
	for i, a := range words() {
		for j, b := range words() {
			pivot := stamp.Date{Era: eras[(i+j)%len(eras)], At: api.Stamp(b)}
			d := stamp.Unfold(api.Stamp(a), pivot)
			if d.At != api.Stamp(a) {
				t.Fatalf("Unfold(%d, %v) is %v: another stamp", a, pivot, d)
			}
			// Nearest, and of two the earlier: -2^63 to 2^63 - 1 behind the pivot.
			apart := new(big.Int).Sub(moment(d), moment(pivot))
			if !apart.IsInt64() {
				t.Fatalf("Unfold(%d, %v) is %v: another one is nearer, or as near and earlier", a, pivot, d)
			}
		}
	}
}

// P2.3, R1: an era that does not fit is no reason to panic.
func TestUnfoldBeyondEras(t *testing.T) {
	stamp.Unfold(last, stamp.Date{Era: math.MinInt, At: 0})
	stamp.Unfold(0, stamp.Date{Era: math.MaxInt, At: last})
}

// P2.8: Since of Plus is the span, where it is not cut.
func TestSinceOfPlus(t *testing.T) {
	for _, a := range words() {
		for _, w := range words() {
			at, d := api.Stamp(a), api.Span(w)
			if d < -most || d > most {
				continue
			}
			if got := stamp.Since(stamp.Plus(at, d), at); got != d {
				t.Fatalf("Since(Plus(%d, %d), %d) is %d", at, d, at, got)
			}
		}
	}
}

// P2.8: Unfold of a date's At, with a pivot less than half an era away, is the date.
func TestUnfoldOfNearPivot(t *testing.T) {
	for i, a := range words() {
		date := stamp.Date{Era: i%16 - 14, At: api.Stamp(a)}
		for _, w := range words() {
			if int64(w) == math.MinInt64 {
				continue
			}
			near := new(big.Int).Add(moment(date), big.NewInt(int64(w)))
			pivot := dateOf(near)
			if got := stamp.Unfold(date.At, pivot); got != date {
				t.Fatalf("Unfold(%d, %v) is %v, not %v", date.At, pivot, got, date)
			}
		}
	}
}

func dateOf(moment *big.Int) stamp.Date {
	era := new(big.Int).Rsh(moment, 64)
	at := wrapped(moment, new(big.Int))
	return stamp.Date{Era: int(era.Int64()), At: api.Stamp(at.Uint64())}
}
