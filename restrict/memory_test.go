package restrict_test

import (
	"math"
	"math/big"
	"math/rand/v2"
	"slices"
	"testing"

	"foliot/api"
	"foliot/restrict"
)

const (
	limited = api.Limited
	kod     = api.Limited | api.Kod
)

func memory(t *testing.T, average, minimum int) *restrict.Memory {
	t.Helper()
	m, err := restrict.New(average, minimum)
	if err != api.OK || m == nil {
		t.Fatalf("New(%v, %v) is %v, %v", average, minimum, m, err)
	}
	return m
}

// heard is a packet, and what becomes of it.
type heard struct {
	addr       uint32
	now, flags int
	want       int
}

func hearAll(t *testing.T, m *restrict.Memory, l []heard) {
	t.Helper()
	for i, x := range l {
		if v := m.Heard(x.addr, x.now, x.flags); v != x.want {
			t.Errorf("packet %v: Heard(%v, %v, %v) is %v, want %v", i, x.addr, x.now, x.flags, v, x.want)
		}
	}
}

func wantEntry(t *testing.T, m *restrict.Memory, want restrict.Entry) {
	t.Helper()
	if e, is := m.Find(want.Addr); !is || e != want {
		t.Errorf("Find(%v) is %v, %v, want %v", want.Addr, e, is, want)
	}
}

// What becomes of a packet has the document's numbers.
func TestVerdictNumbers(t *testing.T) {
	if got := [3]int{restrict.Pass, restrict.Drop, restrict.Kiss}; got != [3]int{0, 1, 2} {
		t.Errorf("Pass, Drop and Kiss are %v", got)
	}
}

// oracle says P6.3 to P6.5 with numbers that have no end, and a list whose last one was heard last.
type oracle struct {
	cost, minimum int64
	told          bool
	now           int
	entries       []restrict.Entry
}

func (o *oracle) heard(addr uint32, now, flags int) int {
	if !o.told || now > o.now {
		o.told, o.now = true, now
	}
	i := slices.IndexFunc(o.entries, func(e restrict.Entry) bool { return e.Addr == addr })
	if i < 0 {
		o.entries = append(o.entries, restrict.Entry{Addr: addr, First: o.now, Last: o.now, Count: 1, Score: int(o.cost)})
		if len(o.entries) > 32 {
			o.entries = o.entries[1:]
		}
		return restrict.Pass
	}
	e := o.entries[i]
	gap := new(big.Int).Sub(big.NewInt(int64(o.now)), big.NewInt(int64(e.Last)))
	left := new(big.Int).Sub(big.NewInt(int64(e.Score)), gap)
	if left.Sign() < 0 {
		left.SetInt64(0)
	}
	s := left.Int64()
	e.Last, e.Count = o.now, e.Count+1
	v := 0
	if flags&32 == 0 {
		e.Score, v = int(min(s+o.cost, 8*o.cost)), restrict.Pass
	} else if gap.Cmp(big.NewInt(o.minimum)) < 0 {
		e.Score, v = int(s), restrict.Drop
	} else if s+o.cost > 8*o.cost && flags&64 != 0 {
		e.Score, v = int(s), restrict.Kiss
	} else if s+o.cost > 8*o.cost {
		e.Score, v = int(s), restrict.Drop
	} else {
		e.Score, v = int(s+o.cost), restrict.Pass
	}
	o.entries = append(slices.Delete(o.entries, i, i+1), e)
	return v
}

func (o *oracle) list() []restrict.Entry {
	l := slices.Clone(o.entries)
	slices.Reverse(l)
	return l
}

func TestNew(t *testing.T) {
	for average := -2; average <= 13; average++ {
		for _, minimum := range []int{math.MinInt, -1, 0, 1, 2, 1023, 1024, 1025, math.MaxInt} {
			m, err := restrict.New(average, minimum)
			if average >= 0 && average <= 10 && minimum >= 0 && minimum <= 1024 {
				if m == nil || err != api.OK {
					t.Fatalf("New(%v, %v) is %v, %v", average, minimum, m, err)
				}
				if l := m.List(); len(l) != 0 {
					t.Errorf("New(%v, %v) remembers %v", average, minimum, l)
				}
				continue
			}
			if m != nil || err != api.ErrArg {
				t.Errorf("New(%v, %v) is %v, %v", average, minimum, m, err)
			}
		}
	}
	for _, average := range []int{math.MinInt, math.MaxInt, 64} {
		if m, err := restrict.New(average, 0); m != nil || err != api.ErrArg {
			t.Errorf("New(%v, 0) is %v, %v", average, m, err)
		}
	}
}

// A packet costs 2^average: the first one's score tells it, and the ninth at one time is one too many.
func TestCostAndMost(t *testing.T) {
	for average := range 11 {
		m := memory(t, average, 0)
		for i := range 8 {
			hearAll(t, m, []heard{{7, 5, kod, restrict.Pass}})
			wantEntry(t, m, restrict.Entry{Addr: 7, First: 5, Last: 5, Count: i + 1, Score: (i + 1) << average})
		}
		hearAll(t, m, []heard{{7, 5, kod, restrict.Kiss}, {7, 5, limited, restrict.Drop}})
		wantEntry(t, m, restrict.Entry{Addr: 7, First: 5, Last: 5, Count: 10, Score: 8 << average})
		// One second less than a cost is still too much, the whole of it is not.
		cost := 1 << average
		hearAll(t, m, []heard{{7, 5 + cost - 1, kod, restrict.Kiss}})
		wantEntry(t, m, restrict.Entry{Addr: 7, First: 5, Last: 4 + cost, Count: 11, Score: 7*cost + 1})
		hearAll(t, m, []heard{{7, 5 + cost, kod, restrict.Pass}})
		wantEntry(t, m, restrict.Entry{Addr: 7, First: 5, Last: 5 + cost, Count: 12, Score: 8 * cost})
	}
}

func TestHeardExamples(t *testing.T) {
	m := memory(t, 1, 2)
	hearAll(t, m, []heard{{7, 0, limited, restrict.Pass}, {7, 1, limited, restrict.Drop}, {7, 3, limited, restrict.Pass}})
	wantEntry(t, m, restrict.Entry{Addr: 7, First: 0, Last: 3, Count: 3, Score: 2})
	m = memory(t, 0, 0)
	for range 8 {
		hearAll(t, m, []heard{{7, 0, 96, restrict.Pass}})
	}
	hearAll(t, m, []heard{{7, 0, 96, restrict.Kiss}, {7, 0, 0, restrict.Pass}})
	wantEntry(t, m, restrict.Entry{Addr: 7, Count: 10, Score: 8})
}

// The minimum comes ahead of the most, and a Drop for it is never a Kiss; what is dropped counts for the gap.
func TestMinimum(t *testing.T) {
	for _, minimum := range []int{1, 2, 3, 1023, 1024} {
		m := memory(t, 0, minimum)
		hearAll(t, m, []heard{
			{7, 0, kod, restrict.Pass},
			{7, minimum - 1, kod, restrict.Drop},
			{7, 2*minimum - 1, kod, restrict.Pass},
			{7, 2*minimum - 1, kod, restrict.Drop},
		})
	}
	m := memory(t, 10, 1)
	for range 8 {
		m.Heard(7, 0, 0)
	}
	wantEntry(t, m, restrict.Entry{Addr: 7, Count: 8, Score: 8192})
	hearAll(t, m, []heard{
		{7, 0, kod, restrict.Drop}, {7, 0, limited, restrict.Drop},
		{7, 1, kod, restrict.Kiss}, {7, 2, limited, restrict.Drop}, {7, 2, kod, restrict.Drop},
	})
	wantEntry(t, m, restrict.Entry{Addr: 7, Last: 2, Count: 13, Score: 8190})
	// With no minimum a gap of 0 is enough.
	hearAll(t, memory(t, 0, 0), []heard{{7, 0, limited, restrict.Pass}, {7, 0, limited, restrict.Pass}})
}

// A packet that comes again and again within the minimum is never heard.
func TestDropsPutOffThePass(t *testing.T) {
	m := memory(t, 0, 3)
	hearAll(t, m, []heard{{7, 0, limited, restrict.Pass}})
	for now := 2; now < 100; now += 2 {
		hearAll(t, m, []heard{{7, now, limited, restrict.Drop}})
	}
	wantEntry(t, m, restrict.Entry{Addr: 7, Last: 98, Count: 50})
	hearAll(t, m, []heard{{7, 101, limited, restrict.Pass}})
	wantEntry(t, m, restrict.Entry{Addr: 7, Last: 101, Count: 51, Score: 1})
}

// Only the flags Limited and Kod count; Kod without Limited does nothing; the first packet passes at all flags.
func TestFlags(t *testing.T) {
	for flags := -256; flags < 512; flags++ {
		m := memory(t, 0, 0)
		hearAll(t, m, []heard{{7, 0, flags, restrict.Pass}})
		for range 7 {
			hearAll(t, m, []heard{{7, 0, flags, restrict.Pass}})
		}
		want := restrict.Pass
		if flags&32 != 0 {
			want = restrict.Drop
		}
		if flags&96 == 96 {
			want = restrict.Kiss
		}
		hearAll(t, m, []heard{{7, 0, flags, want}})
		wantEntry(t, m, restrict.Entry{Addr: 7, Count: 9, Score: 8})
	}
	for _, flags := range []int{math.MinInt, math.MaxInt, -1, 0, kod} {
		m := memory(t, 3, 1024)
		hearAll(t, m, []heard{{7, 9, flags, restrict.Pass}, {8, 9, flags, restrict.Pass}})
		wantEntry(t, m, restrict.Entry{Addr: 7, First: 9, Last: 9, Count: 1, Score: 8})
	}
}

// Without Limited the score goes on, up to the most, whatever the gap.
func TestWithoutLimited(t *testing.T) {
	m := memory(t, 2, 1024)
	for i := range 20 {
		hearAll(t, m, []heard{{7, 0, api.Kod, restrict.Pass}})
		wantEntry(t, m, restrict.Entry{Addr: 7, Count: i + 1, Score: min(4*(i+1), 32)})
	}
	hearAll(t, m, []heard{{7, 3, 0, restrict.Pass}})
	wantEntry(t, m, restrict.Entry{Addr: 7, Last: 3, Count: 21, Score: 32})
	hearAll(t, m, []heard{{7, 8, 0, restrict.Pass}})
	wantEntry(t, m, restrict.Entry{Addr: 7, Last: 8, Count: 22, Score: 31})
	hearAll(t, m, []heard{{7, 38, 0, restrict.Pass}})
	wantEntry(t, m, restrict.Entry{Addr: 7, Last: 38, Count: 23, Score: 5})
	hearAll(t, m, []heard{{7, 44, 0, restrict.Pass}})
	wantEntry(t, m, restrict.Entry{Addr: 7, Last: 44, Count: 24, Score: 4})
}

// A time that goes back counts as the greatest one that the memory was told, by whatever address.
func TestTimesThatGoBack(t *testing.T) {
	m := memory(t, 0, 5)
	hearAll(t, m, []heard{
		{1, 100, limited, restrict.Pass},
		{2, 50, limited, restrict.Pass},
		{2, 104, limited, restrict.Drop},
		{1, 0, limited, restrict.Drop},
		{3, math.MinInt, limited, restrict.Pass},
		{1, 109, limited, restrict.Pass},
		{2, 109, limited, restrict.Pass},
		{3, 108, limited, restrict.Pass},
	})
	wantEntry(t, m, restrict.Entry{Addr: 1, First: 100, Last: 109, Count: 3, Score: 1})
	wantEntry(t, m, restrict.Entry{Addr: 2, First: 100, Last: 109, Count: 3, Score: 1})
	wantEntry(t, m, restrict.Entry{Addr: 3, First: 104, Last: 109, Count: 2, Score: 1})
}

// The gap between two ints may be greater than an int.
func TestTimesFarAway(t *testing.T) {
	m := memory(t, 10, 1024)
	hearAll(t, m, []heard{{7, math.MinInt, limited, restrict.Pass}, {7, math.MinInt, limited, restrict.Drop}})
	wantEntry(t, m, restrict.Entry{Addr: 7, First: math.MinInt, Last: math.MinInt, Count: 2, Score: 1024})
	hearAll(t, m, []heard{{7, math.MaxInt, limited, restrict.Pass}})
	wantEntry(t, m, restrict.Entry{Addr: 7, First: math.MinInt, Last: math.MaxInt, Count: 3, Score: 1024})
	hearAll(t, m, []heard{{7, math.MinInt, limited, restrict.Drop}, {8, 0, limited, restrict.Pass}})
	wantEntry(t, m, restrict.Entry{Addr: 8, First: math.MaxInt, Last: math.MaxInt, Count: 1, Score: 1024})
	for _, to := range []int{-1, 0, 1} {
		m := memory(t, 10, 1024)
		hearAll(t, m, []heard{{7, math.MinInt, limited, restrict.Pass}, {7, to, limited, restrict.Pass}, {7, to, 0, restrict.Pass}})
		wantEntry(t, m, restrict.Entry{Addr: 7, First: math.MinInt, Last: to, Count: 3, Score: 2048})
	}
	m = memory(t, 0, 2)
	hearAll(t, m, []heard{
		{7, -1 << 40, limited, restrict.Pass}, {7, -1<<40 + 1, limited, restrict.Drop}, {7, -1<<40 + 3, limited, restrict.Pass},
		{7, -1, limited, restrict.Pass}, {7, 0, limited, restrict.Drop}, {7, 2, limited, restrict.Pass},
		{7, 1 << 40, limited, restrict.Pass}, {7, 1<<40 + 1, limited, restrict.Drop}, {7, 1<<40 + 3, limited, restrict.Pass},
	})
	wantEntry(t, m, restrict.Entry{Addr: 7, First: -1 << 40, Last: 1<<40 + 3, Count: 9, Score: 1})
}

// The address that goes is the one whose packet lies furthest back by Heard's order: here all packets have one time.
func TestTheOldestGoes(t *testing.T) {
	m := memory(t, 0, 0)
	for i := range 32 {
		hearAll(t, m, []heard{{uint32(i), 5, 0, restrict.Pass}})
	}
	if l := m.List(); len(l) != 32 || l[0].Addr != 31 || l[31].Addr != 0 {
		t.Fatalf("List is %v", l)
	}
	// 0 is heard again: 1 lies furthest back from now on. A drop is a packet too.
	hearAll(t, m, []heard{{0, 4, limited, restrict.Pass}, {100, 3, limited, restrict.Pass}})
	if e, is := m.Find(1); is || e != (restrict.Entry{}) {
		t.Errorf("Find(1) is %v, %v", e, is)
	}
	wantEntry(t, m, restrict.Entry{Addr: 0, First: 5, Last: 5, Count: 2, Score: 2})
	wantEntry(t, m, restrict.Entry{Addr: 100, First: 5, Last: 5, Count: 1, Score: 1})
	want := []uint32{100, 0}
	for i := 31; i >= 2; i-- {
		want = append(want, uint32(i))
	}
	if got := addresses(m.List()); !slices.Equal(got, want) {
		t.Errorf("List is %v, want %v", got, want)
	}
	// Who was forgotten is new again, and pushes out the next one.
	hearAll(t, m, []heard{{1, 9, kod, restrict.Pass}})
	wantEntry(t, m, restrict.Entry{Addr: 1, First: 9, Last: 9, Count: 1, Score: 1})
	if _, is := m.Find(2); is {
		t.Error("2 is remembered")
	}
	for i := range 32 {
		m.Heard(uint32(1000+i), 9, 0)
	}
	if l := m.List(); len(l) != 32 || l[0].Addr != 1031 || l[31].Addr != 1000 {
		t.Errorf("List is %v", l)
	}
}

// A packet that is dropped or kissed is heard too: its address stays.
func TestWhoIsRefusedStays(t *testing.T) {
	m := memory(t, 0, 1)
	for i := range 32 {
		m.Heard(uint32(i), 0, limited)
	}
	hearAll(t, m, []heard{{0, 0, limited, restrict.Drop}, {50, 0, limited, restrict.Pass}})
	wantEntry(t, m, restrict.Entry{Addr: 0, Count: 2, Score: 1})
	if _, is := m.Find(1); is {
		t.Error("1 is remembered")
	}
}

func addresses(l []restrict.Entry) []uint32 {
	var made []uint32
	for _, e := range l {
		made = append(made, e.Addr)
	}
	return made
}

func TestFindNobody(t *testing.T) {
	m := memory(t, 0, 0)
	for _, a := range []uint32{0, 7, 1<<32 - 1} {
		if e, is := m.Find(a); is || e != (restrict.Entry{}) {
			t.Errorf("Find(%v) of nobody is %v, %v", a, e, is)
		}
	}
	hearAll(t, m, []heard{{1<<32 - 1, -3, 0, restrict.Pass}})
	if e, is := m.Find(0); is || e != (restrict.Entry{}) {
		t.Errorf("Find(0) is %v, %v", e, is)
	}
	wantEntry(t, m, restrict.Entry{Addr: 1<<32 - 1, First: -3, Last: -3, Count: 1, Score: 1})
	hearAll(t, m, []heard{{0, -3, 0, restrict.Pass}})
	wantEntry(t, m, restrict.Entry{Addr: 0, First: -3, Last: -3, Count: 1, Score: 1})
}

// Entries that came out are the caller's, and asking changes nothing.
func TestEntriesAreTheCallers(t *testing.T) {
	m := memory(t, 1, 0)
	for i := range 20 {
		m.Heard(uint32(i), i, 0)
	}
	want := slices.Clone(m.List())
	l := m.List()
	l = l[:cap(l)]
	for i := range l {
		l[i] = restrict.Entry{Addr: 99, Score: 99}
	}
	kept := m.List()
	if !slices.Equal(kept, want) {
		t.Errorf("List is %v, want %v", kept, want)
	}
	e, _ := m.Find(3)
	e.Score = 99
	wantEntry(t, m, restrict.Entry{Addr: 3, First: 3, Last: 3, Count: 1, Score: 2})
	m.Heard(3, 30, 0)
	m.Heard(77, 30, 0)
	if !slices.Equal(kept, want) {
		t.Errorf("a list that came out is now %v", kept)
	}
}

func TestMemoriesHaveNothingInCommon(t *testing.T) {
	a, b := memory(t, 0, 0), memory(t, 3, 7)
	hearAll(t, a, []heard{{7, 100, 0, restrict.Pass}})
	if l := b.List(); len(l) != 0 {
		t.Errorf("the other memory remembers %v", l)
	}
	hearAll(t, b, []heard{{7, 5, 0, restrict.Pass}, {7, 11, limited, restrict.Drop}})
	hearAll(t, a, []heard{{7, 101, limited, restrict.Pass}})
	wantEntry(t, b, restrict.Entry{Addr: 7, First: 5, Last: 11, Count: 2, Score: 2})
	wantEntry(t, a, restrict.Entry{Addr: 7, First: 100, Last: 101, Count: 2, Score: 1})
}

// drawTime goes on by little, goes back, or jumps.
func drawTime(r *rand.Rand, now, step int) int {
	switch r.IntN(40) {
	case 0:
		return now - r.IntN(100)
	case 1:
		return []int{math.MinInt, math.MinInt + 1, -1, 0, 1}[r.IntN(5)]
	case 2:
		return now + r.IntN(20000)
	}
	return now + r.IntN(step+1)
}

func TestMemoryDrawn(t *testing.T) {
	r := rand.New(rand.NewPCG(64, 6))
	for range 400 {
		average, minimum := r.IntN(11), []int{0, 1, 2, 5, 1024}[r.IntN(5)]
		m := memory(t, average, minimum)
		o := &oracle{cost: 1 << average, minimum: int64(minimum)}
		now, step, people := -r.IntN(1000), []int{0, 1, 3, 50, 1500}[r.IntN(5)], []int{1, 3, 33, 60}[r.IntN(4)]
		for i := range 300 {
			now = max(now, drawTime(r, now, step))
			told, a, flags := drawTime(r, now, step), uint32(r.IntN(people)), r.IntN(8)<<5
			v, want := m.Heard(a, told, flags), o.heard(a, told, flags)
			if v != want {
				t.Fatalf("packet %v: Heard(%v, %v, %v) is %v, want %v", i, a, told, flags, v, want)
			}
			if e, is := m.Find(a); !is || e != o.entries[len(o.entries)-1] {
				t.Fatalf("packet %v: Find(%v) is %v, %v", i, a, e, is)
			}
		}
		if l := m.List(); !slices.Equal(l, o.list()) {
			t.Fatalf("List is %v, want %v", l, o.list())
		}
	}
}

// P6.7: with Limited always, Passes are the minimum apart, and T seconds hold at most T / 2^average and 8 of them.
func TestPassesAreFew(t *testing.T) {
	r := rand.New(rand.NewPCG(65, 6))
	for range 300 {
		average, minimum, step := r.IntN(6), r.IntN(4), 1+r.IntN(30)
		m := memory(t, average, minimum)
		now := 0
		var passes []int
		for range 200 {
			now += r.IntN(step)
			if m.Heard(7, now, limited|r.IntN(2)*api.Kod) == restrict.Pass {
				passes = append(passes, now)
			}
		}
		for i, from := range passes {
			for j, to := range passes[i:] {
				if j > 0 && to-from < minimum {
					t.Fatalf("Passes at %v and %v, minimum %v", from, to, minimum)
				}
				if j+1 > (to-from)>>average+8 {
					t.Fatalf("%v Passes from %v to %v, average %v", j+1, from, to, average)
				}
			}
		}
		if len(passes) == 0 {
			t.Fatal("nothing passes")
		}
	}
}
