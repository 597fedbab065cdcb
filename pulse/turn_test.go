package pulse_test

import (
	"math"
	"math/rand/v2"
	"testing"

	"foliot/pulse"
)

// bitsOf are a phase's parts as bits: they tell -0 from 0, and what is not a number from another such one.
func bitsOf(p complex128) [2]uint64 {
	return [2]uint64{math.Float64bits(real(p)), math.Float64bits(imag(p))}
}

const sign = uint64(1) << 63

// turned says P8.3 of the parts' bits, quarter by quarter.
func turned(parts [2]uint64, steps int) [2]uint64 {
	for range (steps%4 + 4) % 4 {
		parts = [2]uint64{parts[1] ^ sign, parts[0]}
	}
	return parts
}

func wantTurn(t *testing.T, p complex128, steps int, want complex128) {
	t.Helper()
	if got := pulse.Turn(p, steps); bitsOf(got) != bitsOf(want) {
		t.Errorf("Turn(%v, %v) is %v, want %v", p, steps, got, want)
	}
	// The tests' own form of the promise has to say the same.
	if got := turned(bitsOf(p), steps); got != bitsOf(want) {
		t.Errorf("of %v, %v %x is expected, want %x", p, steps, got, bitsOf(want))
	}
}

// someParts are a phase's parts that a product would spoil, and others.
func someParts() []float64 {
	minus0 := math.Copysign(0, -1)
	return []float64{
		0, minus0, 1, -1, 2.5, -2.5, 0.1, -0.1,
		math.Inf(1), math.Inf(-1), math.NaN(), -math.NaN(), math.Float64frombits(0x7ff8000000000123), math.Float64frombits(0xfff8000000000456),
		math.MaxFloat64, -math.MaxFloat64, math.SmallestNonzeroFloat64, -math.SmallestNonzeroFloat64, 1 << 53, 1<<53 + 2,
	}
}

func someSteps() []int {
	return []int{0, 1, 2, 3, 4, 5, 6, 7, 8, 9, -1, -2, -3, -4, -5, -6, -7, -8, 1 << 32, 1<<32 + 1, -1<<32 - 1, math.MaxInt, math.MaxInt - 1, math.MaxInt - 2, math.MaxInt - 3, math.MinInt, math.MinInt + 1, math.MinInt + 2, math.MinInt + 3}
}

// P8.3: the chapter's examples.
func TestTurnExamples(t *testing.T) {
	for _, x := range []struct {
		p     complex128
		steps int
		want  complex128
	}{{1, 1, 1i}, {1i, 1, -1}, {1 + 2i, -1, 2 - 1i}, {1, 4, 1}} {
		if got := pulse.Turn(x.p, x.steps); got != x.want {
			t.Errorf("Turn(%v, %v) is %v, want %v", x.p, x.steps, got, x.want)
		}
	}
}

// P8.3: each number of quarters, to the left and to the right.
func TestTurnSteps(t *testing.T) {
	p := 1 + 2i
	quarters := [4]complex128{1 + 2i, -2 + 1i, -1 - 2i, 2 - 1i}
	for i := range 9 {
		wantTurn(t, p, i, quarters[i%4])
		wantTurn(t, p, -i, quarters[(8-i)%4])
	}
	wantTurn(t, p, math.MinInt, 1+2i)
	wantTurn(t, p, math.MinInt+1, -2+1i)
	wantTurn(t, p, math.MaxInt, 2-1i)
	wantTurn(t, p, math.MaxInt-1, -1-2i)
	wantTurn(t, p, math.MaxInt-2, -2+1i)
}

// P8.3: parts that are 0, -0, without end or not numbers are moved as others are.
func TestTurnParts(t *testing.T) {
	minus0, inf, nan := math.Copysign(0, -1), math.Inf(1), math.NaN()
	wantTurn(t, 0, 1, complex(minus0, 0))
	wantTurn(t, 0, 2, complex(minus0, minus0))
	wantTurn(t, 0, 3, complex(0, minus0))
	wantTurn(t, complex(minus0, minus0), 1, complex(0, minus0))
	wantTurn(t, complex(minus0, minus0), 4, complex(minus0, minus0))
	wantTurn(t, complex(3, minus0), 1, 3i)
	wantTurn(t, complex(inf, 5), 1, complex(-5, inf))
	wantTurn(t, complex(inf, 5), 2, complex(-inf, -5))
	wantTurn(t, complex(-inf, inf), -1, complex(inf, inf))
	wantTurn(t, complex(nan, 7), 1, complex(-7, nan))
	wantTurn(t, complex(7, nan), -1, complex(nan, -7))
	wantTurn(t, complex(nan, inf), 0, complex(nan, inf))
	wantTurn(t, complex(nan, inf), math.MinInt, complex(nan, inf))
	for _, re := range someParts() {
		for _, im := range someParts() {
			for _, steps := range someSteps() {
				p := complex(re, im)
				if got, want := bitsOf(pulse.Turn(p, steps)), turned(bitsOf(p), steps); got != want {
					t.Errorf("Turn(%v, %v) is %x, want %x", p, steps, got, want)
				}
			}
		}
	}
}

func drawPhase(r *rand.Rand) complex128 {
	return complex(math.Float64frombits(r.Uint64()), math.Float64frombits(r.Uint64()))
}

// P8.3: any parts, and any steps.
func TestTurnDrawn(t *testing.T) {
	r := drawer(7)
	for range 100000 {
		p, steps := drawPhase(r), int(r.Uint64())>>r.IntN(64)
		if got, want := bitsOf(pulse.Turn(p, steps)), turned(bitsOf(p), steps); got != want {
			t.Fatalf("Turn(%v, %v) is %x, want %x", p, steps, got, want)
		}
	}
}

// P8.6: four turns, or none, are no turn; turns add up, though their sum may be none that fits.
func TestTurnsAddUp(t *testing.T) {
	phases := []complex128{1, 1i, -1, -1i, 3 - 4i}
	for _, re := range someParts() {
		phases = append(phases, complex(re, 2), complex(2, re), complex(re, re))
	}
	for _, p := range phases {
		if bitsOf(pulse.Turn(p, 0)) != bitsOf(p) || bitsOf(pulse.Turn(p, 4)) != bitsOf(p) || bitsOf(pulse.Turn(p, -4)) != bitsOf(p) {
			t.Errorf("%v is turned", p)
		}
		four := p
		for range 4 {
			four = pulse.Turn(four, 1)
		}
		if bitsOf(four) != bitsOf(p) {
			t.Errorf("four turns of %v are %v", p, four)
		}
		for _, a := range someSteps() {
			for _, b := range someSteps() {
				// A sum that wraps is still the same but for a multiple of 4.
				if two, one := pulse.Turn(pulse.Turn(p, a), b), pulse.Turn(p, a+b); bitsOf(two) != bitsOf(one) {
					t.Errorf("%v turned by %v and by %v is %v, by both %v", p, a, b, two, one)
				}
			}
			if back := pulse.Turn(pulse.Turn(p, a), 4-a%4); bitsOf(back) != bitsOf(p) {
				t.Errorf("%v turned by %v and back is %v", p, a, back)
			}
		}
	}
}
