package fixed_test

import (
	"math"
	"math/big"
	"math/rand/v2"
	"slices"
	"testing"

	"foliot/api"
	"foliot/fixed"
)

const (
	s     = api.Second
	most  = api.MaxSpan
	top   = api.Span(math.MaxInt64)
	least = api.Span(math.MinInt64)
)

// The signatures that the chapter lists.
var (
	_ func(a, b api.Span) api.Span            = fixed.Add
	_ func(a, b api.Span) api.Span            = fixed.Sub
	_ func(a api.Span) api.Span               = fixed.Neg
	_ func(a api.Span) api.Span               = fixed.Abs
	_ func(a, b api.Span) api.Span            = fixed.Mean
	_ func(a, most api.Span) api.Span         = fixed.Clamp
	_ func(a, b api.Span) api.Span            = fixed.Mul
	_ func(a api.Span, num, den int) api.Span = fixed.Scale
	_ func(a api.Span, n int) api.Span        = fixed.Shift
	_ func(a api.Span) api.Span               = fixed.Root
	_ func(l []api.Span) api.Span             = fixed.RMS
	_ func(n int) api.Span                    = fixed.Power
	_ func(a api.Span) int                    = fixed.Log
	_ func(f api.Freq, s api.Span) api.Span   = fixed.Drift
	_ func(a, s api.Span) api.Freq            = fixed.Rate
	_ func(f api.Freq) api.Freq               = fixed.Cut
)

// A row is a call that was made, what it answered, and what the document asks.
type row[T comparable] struct {
	call      string
	got, want T
}

func check[T comparable](t *testing.T, rows []row[T]) {
	t.Helper()
	for _, r := range rows {
		if r.got != r.want {
			t.Errorf("%s is %v, not %v", r.call, r.got, r.want)
		}
	}
}

// edges are numbers at which an answer may turn: around 0, the powers of two that the chapter names, the bounds, the ends of 64 bits.
func edges() []int64 {
	var l []int64
	for _, n := range []int64{0, 3, 7, 1 << 16, 1 << 31, 1 << 32, 1 << 46, 1 << 48, 1 << 61, int64(api.MaxFreq), int64(most), 3 << 61, math.MaxInt64 - 1} {
		for d := int64(-1); d <= 1; d++ {
			l = append(l, n+d, -(n + d))
		}
	}
	l = append(l, math.MinInt64)
	slices.Sort(l)
	return slices.Compact(l)
}

// drawn are as many numbers of all lengths, the same ones each time.
func drawn(count int) []int64 {
	r := rand.New(rand.NewPCG(1, 2))
	l := make([]int64, count)
	for i := range l {
		l[i] = int64(r.Uint64()) >> r.IntN(64)
	}
	return l
}

// pairs are all pairs of edges, and some that are drawn.
func pairs() [][2]int64 {
	var l [][2]int64
	for _, a := range edges() {
		for _, b := range edges() {
			l = append(l, [2]int64{a, b})
		}
	}
	d := drawn(40000)
	for i := 0; i < len(d); i += 2 {
		l = append(l, [2]int64{d[i], d[i+1]})
	}
	return l
}

func whole(n int64) *big.Int { return big.NewInt(n) }

func plus(a, b *big.Int) *big.Int { return new(big.Int).Add(a, b) }

func minus(a, b *big.Int) *big.Int { return new(big.Int).Sub(a, b) }

func times(a, b *big.Int) *big.Int { return new(big.Int).Mul(a, b) }

// over divides down; b is above 0.
func over(a, b *big.Int) *big.Int { return new(big.Int).Div(a, b) }

func power(n int) *big.Int { return new(big.Int).Lsh(whole(1), uint(n)) }

func bounded(a *big.Int, most int64) int64 {
	if a.Cmp(whole(most)) > 0 {
		return most
	}
	if a.Cmp(whole(-most)) < 0 {
		return -most
	}
	return a.Int64()
}

func saturated(a *big.Int) api.Span { return api.Span(bounded(a, int64(most))) }

func cut(a *big.Int) api.Freq { return api.Freq(bounded(a, int64(api.MaxFreq))) }

// The examples of the chapter.
func TestExamples(t *testing.T) {
	check(t, []row[api.Span]{
		{"Add(2^62, 1)", fixed.Add(1<<62, 1), 1 << 62},
		{"Neg(-2^63)", fixed.Neg(-1 << 63), 1 << 62},
		{"Mean(-1, 0)", fixed.Mean(-1, 0), -1},
		{"Clamp(5, 3)", fixed.Clamp(5, 3), 3},
		{"Clamp(-5, 3)", fixed.Clamp(-5, 3), -3},
		{"Clamp(5, -1)", fixed.Clamp(5, -1), 0},
		{"Mul(3 s, 2 s)", fixed.Mul(3*s, 2*s), 6 * s},
		{"Mul(-1, 1)", fixed.Mul(-1, 1), -1},
		{"Scale(7, 1, 2)", fixed.Scale(7, 1, 2), 3},
		{"Scale(-7, 1, 2)", fixed.Scale(-7, 1, 2), -4},
		{"Scale(7, 1, 0)", fixed.Scale(7, 1, 0), 0},
		{"Shift(5, -1)", fixed.Shift(5, -1), 2},
		{"Shift(-5, -1)", fixed.Shift(-5, -1), -3},
		{"Shift(1, 70)", fixed.Shift(1, 70), 1 << 62},
		{"Shift(-1, -99)", fixed.Shift(-1, -99), -1},
		{"Root(4 s)", fixed.Root(4 * s), 2 * s},
		{"Root(2 s)", fixed.Root(2 * s), 6074000999},
		{"Root(-4)", fixed.Root(-4), 0},
		{"RMS(3, 4)", fixed.RMS([]api.Span{3, 4}), 3},
		{"RMS(-6)", fixed.RMS([]api.Span{-6}), 6},
		{"Power(0)", fixed.Power(0), s},
		{"Power(-32)", fixed.Power(-32), 1},
		{"Power(-33)", fixed.Power(-33), 0},
		{"Power(31)", fixed.Power(31), 1 << 62},
		{"Drift(2^32, s)", fixed.Drift(1<<32, s), 65536},
	})
	check(t, []row[int]{
		{"Log(s)", fixed.Log(s), 0},
		{"Log(s - 1)", fixed.Log(s - 1), -1},
		{"Log(0)", fixed.Log(0), -33},
	})
	check(t, []row[api.Freq]{
		{"Rate(1, s)", fixed.Rate(1, s), 65536},
		{"Rate(s, s)", fixed.Rate(s, s), 140737488355},
		{"Cut(2^40)", fixed.Cut(1 << 40), 140737488355},
	})
}

// P1.1: what the edges of sums are, written out.
func TestSumsAtEdges(t *testing.T) {
	check(t, []row[api.Span]{
		{"Add(2, 3)", fixed.Add(2, 3), 5},
		{"Add(MaxSpan, 0)", fixed.Add(most, 0), most},
		{"Add(MaxSpan - 1, 1)", fixed.Add(most-1, 1), most},
		{"Add(-MaxSpan, -1)", fixed.Add(-most, -1), -most},
		{"Add(top, 0)", fixed.Add(top, 0), most},
		{"Add(least, 0)", fixed.Add(least, 0), -most},
		{"Add(top, top)", fixed.Add(top, top), most},
		{"Add(least, least)", fixed.Add(least, least), -most},
		{"Add(top, -top)", fixed.Add(top, -top), 0},
		{"Add(top, least)", fixed.Add(top, least), -1},
		{"Add(top, -MaxSpan)", fixed.Add(top, -most), most - 1},
		{"Sub(2, 3)", fixed.Sub(2, 3), -1},
		{"Sub(-MaxSpan, 1)", fixed.Sub(-most, 1), -most},
		{"Sub(MaxSpan, -1)", fixed.Sub(most, -1), most},
		{"Sub(top, least)", fixed.Sub(top, least), most},
		{"Sub(least, top)", fixed.Sub(least, top), -most},
		{"Sub(0, least)", fixed.Sub(0, least), most},
		{"Sub(-1, least)", fixed.Sub(-1, least), most},
		{"Sub(least, least)", fixed.Sub(least, least), 0},
		{"Sub(least, -MaxSpan)", fixed.Sub(least, -most), -most},
		{"Neg(7)", fixed.Neg(7), -7},
		{"Neg(0)", fixed.Neg(0), 0},
		{"Neg(top)", fixed.Neg(top), -most},
		{"Neg(-MaxSpan)", fixed.Neg(-most), most},
		{"Abs(7)", fixed.Abs(7), 7},
		{"Abs(-7)", fixed.Abs(-7), 7},
		{"Abs(0)", fixed.Abs(0), 0},
		{"Abs(top)", fixed.Abs(top), most},
		{"Abs(least)", fixed.Abs(least), most},
		{"Mean(3, 4)", fixed.Mean(3, 4), 3},
		{"Mean(-3, -4)", fixed.Mean(-3, -4), -4},
		{"Mean(-3, 2)", fixed.Mean(-3, 2), -1},
		{"Mean(top, top)", fixed.Mean(top, top), most},
		{"Mean(least, least)", fixed.Mean(least, least), -most},
		{"Mean(top, least)", fixed.Mean(top, least), -1},
		{"Mean(top, 1)", fixed.Mean(top, 1), most},
		{"Mean(top, 0)", fixed.Mean(top, 0), most - 1},
		{"Clamp(2, 3)", fixed.Clamp(2, 3), 2},
		{"Clamp(3, 3)", fixed.Clamp(3, 3), 3},
		{"Clamp(5, 0)", fixed.Clamp(5, 0), 0},
		{"Clamp(-5, -9)", fixed.Clamp(-5, -9), 0},
		{"Clamp(5, least)", fixed.Clamp(5, least), 0},
		{"Clamp(top, top)", fixed.Clamp(top, top), most},
		{"Clamp(least, top)", fixed.Clamp(least, top), -most},
		{"Clamp(least, 4)", fixed.Clamp(least, 4), -4},
	})
}

// P1.1: sums are the whole, saturated.
func TestSumsAreWhole(t *testing.T) {
	for _, p := range pairs() {
		a, b := api.Span(p[0]), api.Span(p[1])
		x, y := whole(p[0]), whole(p[1])
		sum := plus(x, y)
		if got, want := fixed.Add(a, b), saturated(sum); got != want {
			t.Fatalf("Add(%d, %d) is %d, not %d", a, b, got, want)
		}
		if got, want := fixed.Sub(a, b), saturated(minus(x, y)); got != want {
			t.Fatalf("Sub(%d, %d) is %d, not %d", a, b, got, want)
		}
		if got, want := fixed.Mean(a, b), saturated(over(sum, whole(2))); got != want {
			t.Fatalf("Mean(%d, %d) is %d, not %d", a, b, got, want)
		}
		if got, want := fixed.Neg(a), saturated(new(big.Int).Neg(x)); got != want {
			t.Fatalf("Neg(%d) is %d, not %d", a, got, want)
		}
		if got, want := fixed.Abs(a), saturated(new(big.Int).Abs(x)); got != want {
			t.Fatalf("Abs(%d) is %d, not %d", a, got, want)
		}
		if got, want := fixed.Clamp(a, b), clamped(x, p[1]); got != want {
			t.Fatalf("Clamp(%d, %d) is %d, not %d", a, b, got, want)
		}
	}
}

func clamped(a *big.Int, most int64) api.Span {
	if most < 0 {
		return 0
	}
	return saturated(whole(bounded(a, most)))
}

// P1.2: what the edges of products are, written out.
func TestProductsAtEdges(t *testing.T) {
	check(t, []row[api.Span]{
		{"Mul(s, -s)", fixed.Mul(s, -s), -s},
		{"Mul(-s, -s)", fixed.Mul(-s, -s), s},
		{"Mul(1, 1)", fixed.Mul(1, 1), 0},
		{"Mul(-1, 0)", fixed.Mul(-1, 0), 0},
		{"Mul(MaxSpan, s)", fixed.Mul(most, s), most},
		{"Mul(MaxSpan, s + 1)", fixed.Mul(most, s+1), most},
		{"Mul(-MaxSpan, s + 1)", fixed.Mul(-most, s+1), -most},
		{"Mul(least, least)", fixed.Mul(least, least), most},
		{"Mul(least, top)", fixed.Mul(least, top), -most},
		{"Mul(least, s / 2)", fixed.Mul(least, s/2), -most},
		{"Mul(least, 1)", fixed.Mul(least, 1), -s / 2},
		{"Scale(6, 5, 3)", fixed.Scale(6, 5, 3), 10},
		{"Scale(7, -1, 2)", fixed.Scale(7, -1, 2), -4},
		{"Scale(-7, -1, 2)", fixed.Scale(-7, -1, 2), 3},
		{"Scale(-6, 1, 2)", fixed.Scale(-6, 1, 2), -3},
		{"Scale(-1, 1, top)", fixed.Scale(-1, 1, math.MaxInt), -1},
		{"Scale(7, 1, -2)", fixed.Scale(7, 1, -2), 0},
		{"Scale(7, 1, least)", fixed.Scale(7, 1, math.MinInt), 0},
		{"Scale(least, least, 0)", fixed.Scale(least, math.MinInt, 0), 0},
		{"Scale(top, top, top)", fixed.Scale(top, math.MaxInt, math.MaxInt), most},
		{"Scale(least, least, top)", fixed.Scale(least, math.MinInt, math.MaxInt), most},
		{"Scale(least, least, 1)", fixed.Scale(least, math.MinInt, 1), most},
		{"Scale(least, top, 1)", fixed.Scale(least, math.MaxInt, 1), -most},
		{"Scale(least, 1, 2)", fixed.Scale(least, 1, 2), -most},
		{"Scale(top, 1, 2)", fixed.Scale(top, 1, 2), most - 1},
		{"Scale(-2^62 - 1, 1, 1)", fixed.Scale(-most-1, 1, 1), -most},
		{"Scale(-2^63 + 1, 1, 2)", fixed.Scale(least+1, 1, 2), -most},
	})
}

// P1.2: shifts by 63 and more either way.
func TestShiftsAtEdges(t *testing.T) {
	check(t, []row[api.Span]{
		{"Shift(5, 0)", fixed.Shift(5, 0), 5},
		{"Shift(5, 2)", fixed.Shift(5, 2), 20},
		{"Shift(-5, 2)", fixed.Shift(-5, 2), -20},
		{"Shift(top, 0)", fixed.Shift(top, 0), most},
		{"Shift(least, 0)", fixed.Shift(least, 0), -most},
		{"Shift(1, 61)", fixed.Shift(1, 61), most / 2},
		{"Shift(1, 62)", fixed.Shift(1, 62), most},
		{"Shift(1, 63)", fixed.Shift(1, 63), most},
		{"Shift(1, 64)", fixed.Shift(1, 64), most},
		{"Shift(1, top)", fixed.Shift(1, math.MaxInt), most},
		{"Shift(-1, 61)", fixed.Shift(-1, 61), -most / 2},
		{"Shift(-1, 62)", fixed.Shift(-1, 62), -most},
		{"Shift(-1, 63)", fixed.Shift(-1, 63), -most},
		{"Shift(-1, 64)", fixed.Shift(-1, 64), -most},
		{"Shift(-1, top)", fixed.Shift(-1, math.MaxInt), -most},
		{"Shift(0, 64)", fixed.Shift(0, 64), 0},
		{"Shift(0, top)", fixed.Shift(0, math.MaxInt), 0},
		{"Shift(3, 61)", fixed.Shift(3, 61), most},
		{"Shift(top, -62)", fixed.Shift(top, -62), 1},
		{"Shift(top, -63)", fixed.Shift(top, -63), 0},
		{"Shift(top, -64)", fixed.Shift(top, -64), 0},
		{"Shift(top, least)", fixed.Shift(top, math.MinInt), 0},
		{"Shift(least, -1)", fixed.Shift(least, -1), -most},
		{"Shift(least, -62)", fixed.Shift(least, -62), -2},
		{"Shift(least, -63)", fixed.Shift(least, -63), -1},
		{"Shift(least, -64)", fixed.Shift(least, -64), -1},
		{"Shift(-1, least)", fixed.Shift(-1, math.MinInt), -1},
		{"Shift(0, least)", fixed.Shift(0, math.MinInt), 0},
	})
}

// P1.2: products are the whole, divided down and saturated.
func TestProductsAreWhole(t *testing.T) {
	third := drawn(1 << 10)
	for i, p := range pairs() {
		a, b := api.Span(p[0]), api.Span(p[1])
		product := times(whole(p[0]), whole(p[1]))
		if got, want := fixed.Mul(a, b), saturated(over(product, power(32))); got != want {
			t.Fatalf("Mul(%d, %d) is %d, not %d", a, b, got, want)
		}
		for _, den := range []int64{third[i%len(third)], 1, 3, math.MaxInt64} {
			want := api.Span(0)
			if den > 0 {
				want = saturated(over(product, whole(den)))
			}
			if got := fixed.Scale(a, int(p[1]), int(den)); got != want {
				t.Fatalf("Scale(%d, %d, %d) is %d, not %d", a, p[1], den, got, want)
			}
		}
	}
}

// P1.2: shifts are the whole, divided down and saturated.
func TestShiftsAreWhole(t *testing.T) {
	for _, a := range append(edges(), drawn(500)...) {
		for n := -70; n <= 70; n++ {
			want := saturated(times(whole(a), power(max(n, 0))))
			if n < 0 {
				want = saturated(over(whole(a), power(-n)))
			}
			if got := fixed.Shift(api.Span(a), n); got != want {
				t.Fatalf("Shift(%d, %d) is %d, not %d", a, n, got, want)
			}
		}
	}
}

// P1.3: what the edges of roots are, written out.
func TestRootsAtEdges(t *testing.T) {
	check(t, []row[api.Span]{
		{"Root(0)", fixed.Root(0), 0},
		{"Root(-1)", fixed.Root(-1), 0},
		{"Root(least)", fixed.Root(least), 0},
		{"Root(1)", fixed.Root(1), 65536},
		{"Root(2)", fixed.Root(2), 92681},
		{"Root(s)", fixed.Root(s), s},
		{"Root(s - 1)", fixed.Root(s - 1), s - 1},
		{"Root(9 s)", fixed.Root(9 * s), 3 * s},
		{"Root(MaxSpan)", fixed.Root(most), 1 << 47},
		{"Root(MaxSpan - 1)", fixed.Root(most - 1), 1<<47 - 1},
		{"Root(top)", fixed.Root(top), 199032864766430},
	})
}

// P1.3: a root is the greatest number whose square is at most the whole.
func TestRootsAreGreatest(t *testing.T) {
	for _, a := range append(edges(), drawn(20000)...) {
		want := new(big.Int)
		if a > 0 {
			want.Sqrt(times(whole(a), power(32)))
		}
		if got := fixed.Root(api.Span(a)); whole(int64(got)).Cmp(want) != 0 {
			t.Fatalf("Root(%d) is %d, not %d", a, got, want)
		}
	}
}

func repeated(a api.Span, count int) []api.Span { return slices.Repeat([]api.Span{a}, count) }

// P1.3: what the edges of RMS are, written out.
func TestRMSAtEdges(t *testing.T) {
	check(t, []row[api.Span]{
		{"RMS()", fixed.RMS([]api.Span{}), 0},
		{"RMS(nil)", fixed.RMS(nil), 0},
		{"RMS(0)", fixed.RMS([]api.Span{0}), 0},
		{"RMS(1, 0)", fixed.RMS([]api.Span{1, 0}), 0},
		{"RMS(2, 0)", fixed.RMS([]api.Span{2, 0}), 1},
		{"RMS(-1, 1, 1)", fixed.RMS([]api.Span{-1, 1, 1}), 1},
		{"RMS(-3, 4)", fixed.RMS([]api.Span{-3, 4}), 3},
		{"RMS(MaxSpan)", fixed.RMS([]api.Span{most}), most},
		{"RMS(MaxSpan - 1)", fixed.RMS([]api.Span{most - 1}), most - 1},
		{"RMS(top)", fixed.RMS([]api.Span{top}), most},
		{"RMS(least)", fixed.RMS([]api.Span{least}), most},
		{"RMS(top, 0, 0, 0)", fixed.RMS([]api.Span{top, 0, 0, 0}), most / 2},
		{"RMS of 15 MaxSpan", fixed.RMS(repeated(most, 15)), most},
		{"RMS of 16 MaxSpan", fixed.RMS(repeated(most, 16)), most},
		{"RMS of 64 MaxSpan", fixed.RMS(repeated(most, 64)), most},
		{"RMS of 64 least", fixed.RMS(repeated(least, 64)), most},
		{"RMS of 64 ones", fixed.RMS(repeated(1, 64)), 1},
		{"RMS of 63 noughts and 8", fixed.RMS(append(repeated(0, 63), 8)), 1},
		{"RMS of 64 noughts and 800", fixed.RMS(append(repeated(0, 64), 800)), 0},
		{"RMS of 64 ones and MaxSpan", fixed.RMS(append(repeated(1, 64), most)), 1},
		{"RMS of 64 twos and 64 noughts", fixed.RMS(append(repeated(2, 64), repeated(0, 64)...)), 2},
		{"RMS of 1000 least", fixed.RMS(repeated(least, 1000)), most},
	})
}

func rootMeanSquare(l []api.Span) api.Span {
	l = l[:min(len(l), 64)]
	if len(l) == 0 {
		return 0
	}
	sum := new(big.Int)
	for _, a := range l {
		element := whole(int64(saturated(whole(int64(a)))))
		sum.Add(sum, times(element, element))
	}
	return saturated(new(big.Int).Sqrt(over(sum, whole(int64(len(l))))))
}

// P1.3: RMS is the greatest number whose square is at most the mean square, whatever the list's length.
func TestRMSIsGreatest(t *testing.T) {
	numbers := slices.Concat(edges(), drawn(4000))
	for i := range numbers {
		l := make([]api.Span, i%70)
		for j := range l {
			l[j] = api.Span(numbers[(i+j)%len(numbers)])
		}
		if got, want := fixed.RMS(l), rootMeanSquare(l); got != want {
			t.Fatalf("RMS(%d) is %d, not %d", l, got, want)
		}
	}
}

// R3: what is handed to RMS is not changed, nor what lies behind its length.
func TestRMSLeavesItsList(t *testing.T) {
	room := append(repeated(least, 70), 1, 2, 3)
	before := slices.Clone(room)
	fixed.RMS(room[:3])
	fixed.RMS(room[:70])
	if !slices.Equal(room, before) {
		t.Errorf("RMS changed its list to %d", room)
	}
}

// P1.4: Power and Log at their ends.
func TestPowersAtEnds(t *testing.T) {
	check(t, []row[api.Span]{
		{"Power(-34)", fixed.Power(-34), 0},
		{"Power(-64)", fixed.Power(-64), 0},
		{"Power(-97)", fixed.Power(-97), 0},
		{"Power(least)", fixed.Power(math.MinInt), 0},
		{"Power(-31)", fixed.Power(-31), 2},
		{"Power(-1)", fixed.Power(-1), s / 2},
		{"Power(1)", fixed.Power(1), 2 * s},
		{"Power(29)", fixed.Power(29), most / 2},
		{"Power(30)", fixed.Power(30), most},
		{"Power(32)", fixed.Power(32), most},
		{"Power(64)", fixed.Power(64), most},
		{"Power(top)", fixed.Power(math.MaxInt), most},
	})
	check(t, []row[int]{
		{"Log(-1)", fixed.Log(-1), -33},
		{"Log(-s)", fixed.Log(-s), -33},
		{"Log(least)", fixed.Log(least), -33},
		{"Log(1)", fixed.Log(1), -32},
		{"Log(2)", fixed.Log(2), -31},
		{"Log(3)", fixed.Log(3), -31},
		{"Log(2 s - 1)", fixed.Log(2*s - 1), 0},
		{"Log(2 s)", fixed.Log(2 * s), 1},
		{"Log(MaxSpan - 1)", fixed.Log(most - 1), 29},
		{"Log(MaxSpan)", fixed.Log(most), 30},
		{"Log(top)", fixed.Log(top), 30},
	})
}

// P1.4: Log is the inverse of Power, and tells the greatest power that is not above.
func TestLogOfPower(t *testing.T) {
	for n := -32; n <= 30; n++ {
		p := fixed.Power(n)
		if p != 1<<(32+n) {
			t.Errorf("Power(%d) is %d", n, p)
		}
		if got := fixed.Log(p); got != n {
			t.Errorf("Log(Power(%d)) is %d", n, got)
		}
		if got := fixed.Log(p - 1); got != n-1 {
			t.Errorf("Log(Power(%d) - 1) is %d", n, got)
		}
	}
}

// P1.5: rates at their cut, and a divisor that is not above 0.
func TestRatesAtEdges(t *testing.T) {
	const cut = api.MaxFreq
	check(t, []row[api.Freq]{
		{"Rate(-1, s)", fixed.Rate(-1, s), -65536},
		{"Rate(1, 3 s)", fixed.Rate(1, 3*s), 21845},
		{"Rate(-1, 3 s)", fixed.Rate(-1, 3*s), -21846},
		{"Rate(-1, top)", fixed.Rate(-1, top), -1},
		{"Rate(0, s)", fixed.Rate(0, s), 0},
		{"Rate(1, 0)", fixed.Rate(1, 0), 0},
		{"Rate(1, -1)", fixed.Rate(1, -1), 0},
		{"Rate(-1, least)", fixed.Rate(-1, least), 0},
		{"Rate(-s, s)", fixed.Rate(-s, s), -cut},
		{"Rate(top, 1)", fixed.Rate(top, 1), cut},
		{"Rate(least, 1)", fixed.Rate(least, 1), -cut},
		{"Rate(least, top)", fixed.Rate(least, top), -cut},
		{"Rate(MaxFreq, 2^48)", fixed.Rate(api.Span(cut), 1<<48), cut},
		{"Rate(MaxFreq + 1, 2^48)", fixed.Rate(api.Span(cut)+1, 1<<48), cut},
		{"Rate(MaxFreq - 1, 2^48)", fixed.Rate(api.Span(cut)-1, 1<<48), cut - 1},
		{"Rate(-MaxFreq - 1, 2^48)", fixed.Rate(-api.Span(cut)-1, 1<<48), -cut},
		{"Rate(1 - MaxFreq, 2^48)", fixed.Rate(1-api.Span(cut), 1<<48), 1 - cut},
		{"Cut(5)", fixed.Cut(5), 5},
		{"Cut(-5)", fixed.Cut(-5), -5},
		{"Cut(MaxFreq)", fixed.Cut(cut), cut},
		{"Cut(MaxFreq + 1)", fixed.Cut(cut + 1), cut},
		{"Cut(-MaxFreq)", fixed.Cut(-cut), -cut},
		{"Cut(-MaxFreq - 1)", fixed.Cut(-cut - 1), -cut},
		{"Cut(top)", fixed.Cut(math.MaxInt64), cut},
		{"Cut(least)", fixed.Cut(math.MinInt64), -cut},
	})
	check(t, []row[api.Span]{
		{"Drift(1, 1)", fixed.Drift(1, 1), 0},
		{"Drift(-1, 1)", fixed.Drift(-1, 1), -1},
		{"Drift(1, -1)", fixed.Drift(1, -1), -1},
		{"Drift(-2^32, s)", fixed.Drift(-1<<32, s), -65536},
		{"Drift(2^48, MaxSpan), f is not cut", fixed.Drift(1<<48, most), most},
		{"Drift(2^48, 7), f is not cut", fixed.Drift(1<<48, 7), 7},
		{"Drift(-2^48, top)", fixed.Drift(-1<<48, top), -most},
		{"Drift(least, least)", fixed.Drift(math.MinInt64, least), most},
		{"Drift(least, top)", fixed.Drift(math.MinInt64, top), -most},
		{"Drift(0, least)", fixed.Drift(0, least), 0},
	})
}

// P1.5: drifts and rates are the whole, divided down, then saturated or cut.
func TestRatesAreWhole(t *testing.T) {
	for _, p := range pairs() {
		a, b := whole(p[0]), whole(p[1])
		drift := saturated(over(times(a, b), power(48)))
		if got := fixed.Drift(api.Freq(p[0]), api.Span(p[1])); got != drift {
			t.Fatalf("Drift(%d, %d) is %d, not %d", a, b, got, drift)
		}
		rate := api.Freq(0)
		if p[1] > 0 {
			rate = cut(over(times(a, power(48)), b))
		}
		if got := fixed.Rate(api.Span(p[0]), api.Span(p[1])); got != rate {
			t.Fatalf("Rate(%d, %d) is %d, not %d", a, b, got, rate)
		}
		if got, want := fixed.Cut(api.Freq(p[0])), cut(a); got != want {
			t.Fatalf("Cut(%d) is %d, not %d", a, got, want)
		}
	}
}

// P1.6: the root of a square is the number, or at most 65537 less.
func TestRootOfSquare(t *testing.T) {
	for _, n := range append(edges(), drawn(20000)...) {
		a := api.Span(n)
		if a < 0 || a > 1<<46 {
			continue
		}
		if r := fixed.Root(fixed.Mul(a, a)); r > a || r < a-65537 {
			t.Fatalf("Root(Mul(%d, %d)) is %d", a, a, r)
		}
	}
}

// P1.6: where one side of a sum is not less, nor is the sum.
func TestSumsAreMonotone(t *testing.T) {
	for _, p := range pairs() {
		a, b := api.Span(min(p[0], p[1])), api.Span(max(p[0], p[1]))
		for _, n := range edges() {
			c := api.Span(n)
			if fixed.Add(a, c) > fixed.Add(b, c) || fixed.Add(c, a) > fixed.Add(c, b) {
				t.Fatalf("Add of %d or %d, and %d, is not monotone", a, b, c)
			}
			if fixed.Sub(a, c) > fixed.Sub(b, c) || fixed.Sub(c, a) < fixed.Sub(c, b) {
				t.Fatalf("Sub of %d or %d, and %d, is not monotone", a, b, c)
			}
		}
	}
}

// P1.6: what drifts at a rate is what the rate was worked out of, or a little less.
func TestDriftOfRate(t *testing.T) {
	tried := 0
	for _, p := range pairs() {
		a, b := api.Span(p[0]), api.Span(p[1])
		if a < 0 || b <= 0 {
			continue
		}
		// Of spans as far apart as these are drawn most rates are cut: lesser ones are tried too.
		for _, a := range []api.Span{a, a % (b/2048 + 1), b / 2000} {
			r := fixed.Rate(a, b)
			if r == api.MaxFreq {
				continue
			}
			tried++
			if d := fixed.Drift(r, b); d > a || d < a-1-b>>48 {
				t.Fatalf("Drift(Rate(%d, %d), %d) is %d", a, b, b, d)
			}
		}
	}
	if tried < 1000 {
		t.Errorf("only %d rates were not cut", tried)
	}
}
