package pulse_test

import (
	"math"
	"math/big"
	"math/rand/v2"
	"testing"

	"foliot/api"
	"foliot/pulse"
)

// The document's signatures.
var (
	_ func(api.Stamp) api.Span                                  = pulse.Offset
	_ func([]api.Span) (api.Span, api.Span)                     = pulse.Median
	_ func(complex128, int) complex128                          = pulse.Turn
	_ func() *pulse.Line                                        = pulse.New
	_ func(*pulse.Line, api.Stamp) bool                         = (*pulse.Line).Edge
	_ func(*pulse.Line) int                                     = (*pulse.Line).Len
	_ func(*pulse.Line, api.Stamp, api.Span) (api.Sample, bool) = (*pulse.Line).Sample
	_ func(*pulse.Line) complex128                              = (*pulse.Line).Phase
)

const (
	second = 1 << 32
	half   = 1 << 31
	last   = math.MaxUint64 // the last reading of an era
)

func drawer(seed uint64) *rand.Rand { return rand.New(rand.NewPCG(8, seed)) }

// offsetOf says P8.1 by the remainder of numbers without end.
func offsetOf(at api.Stamp) api.Span {
	f := new(big.Int).Mod(new(big.Int).SetUint64(uint64(at)), big.NewInt(second))
	if f.Cmp(big.NewInt(half)) > 0 {
		f.Sub(f, big.NewInt(second))
	}
	return api.Span(-f.Int64())
}

// edgesOfSecond are the places within a second at which an answer may turn.
func edgesOfSecond() []uint64 {
	return []uint64{0, 1, 2, 1<<23 - 1, 1 << 23, 1<<23 + 1, half - 1, half, half + 1, half + 2, second - 2, second - 1}
}

// edgesOfEra are whole seconds at its beginning, in its middle, at its end.
func edgesOfEra() []uint64 {
	return []uint64{0, 1, 2, 7, 1<<31 - 1, 1 << 31, 1<<31 + 1, 1<<32 - 2, 1<<32 - 1}
}

func wantOffset(t *testing.T, at api.Stamp, want api.Span) {
	t.Helper()
	if o := pulse.Offset(at); o != want {
		t.Errorf("Offset(%v) is %v, want %v", at, o, want)
	}
}

// P8.1: the chapter's examples.
func TestOffsetExamples(t *testing.T) {
	wantOffset(t, 0, 0)
	wantOffset(t, 1, -1)
	wantOffset(t, half, -half)
	wantOffset(t, half+1, half-1)
	wantOffset(t, second-1, 1)
}

// P8.1: the same places of each second have the same offset, the era's last one too.
func TestOffsetEdges(t *testing.T) {
	want := []api.Span{0, -1, -2, -1<<23 + 1, -1 << 23, -1<<23 - 1, -half + 1, -half, half - 1, half - 2, 2, 1}
	for _, s := range edgesOfEra() {
		for i, f := range edgesOfSecond() {
			at := api.Stamp(s<<32 + f)
			wantOffset(t, at, want[i])
			if o := offsetOf(at); o != want[i] {
				t.Errorf("of %v %v is expected, want %v", at, o, want[i])
			}
		}
	}
	wantOffset(t, last, 1)
	wantOffset(t, last-1, 2)
	wantOffset(t, 1<<63, 0)
	wantOffset(t, 1<<63-1, 1)
	wantOffset(t, 1<<63+1, -1)
}

// P8.1: what is added leads to a whole second, and no other one is nearer.
func TestOffsetDrawn(t *testing.T) {
	r := drawer(1)
	for range 200000 {
		at := api.Stamp(r.Uint64())
		o := pulse.Offset(at)
		if want := offsetOf(at); o != want {
			t.Fatalf("Offset(%v) is %v, want %v", at, o, want)
		}
		if o < -half || o >= half || uint32(uint64(at)+uint64(o)) != 0 {
			t.Fatalf("Offset(%v) is %v", at, o)
		}
	}
}
