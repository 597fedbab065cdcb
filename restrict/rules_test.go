package restrict_test

import (
	"math"
	"math/rand/v2"
	"slices"
	"sort"
	"strconv"
	"strings"
	"testing"

	"foliot/api"
	"foliot/restrict"
)

// The signatures are the document's.
var (
	_ func(api.Rule) api.Errno                              = restrict.Check
	_ func([]api.Rule, uint32) int                          = restrict.Match
	_ func([]api.Rule) ([]api.Rule, api.Errno)              = restrict.Sort
	_ func(int, int) (*restrict.Memory, api.Errno)          = restrict.New
	_ func(*restrict.Memory, uint32, int, int) int          = (*restrict.Memory).Heard
	_ func(*restrict.Memory) []restrict.Entry               = (*restrict.Memory).List
	_ func(*restrict.Memory, uint32) (restrict.Entry, bool) = (*restrict.Memory).Find
	_ func(string) uint32                                   = restrict.KissCode
	_ func(api.Packet, uint32, int) api.Packet              = restrict.Death
	_ func(api.Packet) (uint32, bool)                       = restrict.IsDeath
)

func addr(a, b, c, d uint32) uint32 { return a<<24 | b<<16 | c<<8 | d }

func rule(addr uint32, bits, flags int) api.Rule {
	return api.Rule{Addr: addr, Bits: bits, Flags: flags}
}

// digits is an address as 32 binary digits, the highest first.
func digits(addr uint32) string {
	s := strconv.FormatUint(uint64(addr), 2)
	return strings.Repeat("0", 32-len(s)) + s
}

// mayBe says P6.1's Check by binary digits.
func mayBe(r api.Rule) bool {
	if r.Bits < 0 || r.Bits > 32 || r.Flags < 0 || r.Flags > 255 {
		return false
	}
	return !strings.Contains(digits(r.Addr)[r.Bits:], "1")
}

// matched says P6.1's Match by binary digits: the longest beginnings first.
func matched(l []api.Rule, addr uint32) int {
	for bits := 32; bits >= 0; bits-- {
		found, flags := false, 0
		for _, r := range l {
			if mayBe(r) && r.Bits == bits && strings.HasPrefix(digits(addr), digits(r.Addr)[:bits]) {
				found, flags = true, flags|r.Flags
			}
		}
		if found {
			return flags
		}
	}
	return 0
}

// sorted says P6.2 of rules that may be, by a map of ranges.
func sorted(l []api.Rule) []api.Rule {
	flags := map[[2]int]int{}
	for _, r := range l {
		flags[[2]int{int(r.Addr), r.Bits}] |= r.Flags
	}
	var made []api.Rule
	for at, f := range flags {
		made = append(made, rule(uint32(at[0]), at[1], f))
	}
	sort.Slice(made, func(i, j int) bool {
		a, b := made[i], made[j]
		return a.Addr < b.Addr || a.Addr == b.Addr && a.Bits < b.Bits
	})
	return made
}

// drawRule draws from few ranges, so that some are one, and some are within others.
func drawRule(r *rand.Rand) api.Rule {
	bits := r.IntN(33)
	if r.IntN(2) == 0 {
		bits = 30 + r.IntN(3)
	}
	made := rule(drawAddr(r), bits, r.IntN(256))
	if bits < 32 {
		made.Addr &^= 1<<(32-bits) - 1
	}
	return made
}

func drawWrongRule(r *rand.Rand) api.Rule {
	made := drawRule(r)
	switch r.IntN(5) {
	case 0:
		made.Bits = 33 + r.IntN(40)
	case 1:
		made.Bits = -1 - r.IntN(40)
	case 2:
		made.Flags = 256 + r.IntN(512)
	case 3:
		made.Flags = -1 - r.IntN(512)
	default:
		made.Bits = r.IntN(32)
		made.Addr |= 1
	}
	return made
}

// drawAddr draws of addresses that lie close together, at both ends and in the middle.
func drawAddr(r *rand.Rand) uint32 {
	return []uint32{0, 1<<31 - 4, 1<<32 - 8}[r.IntN(3)] + uint32(r.IntN(8))
}

func drawRules(r *rand.Rand, wrong bool) []api.Rule {
	made := []api.Rule{}
	for range r.IntN(33) {
		if wrong && r.IntN(4) == 0 {
			made = append(made, drawWrongRule(r))
			continue
		}
		made = append(made, drawRule(r))
	}
	return made
}

func TestCheckWrittenOut(t *testing.T) {
	for _, x := range []struct {
		r    api.Rule
		want api.Errno
	}{
		{rule(addr(10, 0, 0, 0), 8, 3), api.OK},
		{rule(addr(10, 0, 0, 1), 8, 3), api.ErrRange},
		{rule(0, 0, 255), api.OK},
		{rule(0, 33, 0), api.ErrRange},
		{rule(0, 0, 0), api.OK},
		{rule(1, 0, 0), api.ErrRange},
		{rule(1<<31, 0, 0), api.ErrRange},
		{rule(1<<31, 1, 0), api.OK},
		{rule(1<<30, 1, 0), api.ErrRange},
		{rule(1<<32-1, 32, 255), api.OK},
		{rule(1<<32-2, 31, 255), api.OK},
		{rule(1<<32-1, 31, 255), api.ErrRange},
		{rule(0, 32, 0), api.OK},
		{rule(0, -1, 0), api.ErrRange},
		{rule(0, 64, 0), api.ErrRange},
		{rule(0, 1<<32, 0), api.ErrRange},
		{rule(0, math.MinInt, 0), api.ErrRange},
		{rule(0, math.MaxInt, 0), api.ErrRange},
		{rule(0, 0, -1), api.ErrRange},
		{rule(0, 0, 256), api.ErrRange},
		{rule(0, 0, math.MinInt), api.ErrRange},
		{rule(0, 0, math.MaxInt), api.ErrRange},
		{rule(1<<32-1, 33, 256), api.ErrRange},
	} {
		if err := restrict.Check(x.r); err != x.want {
			t.Errorf("Check(%v) is %v, want %v", x.r, err, x.want)
		}
	}
}

func TestCheckEachBit(t *testing.T) {
	for bits := -2; bits <= 35; bits++ {
		for one := range 32 {
			r := rule(1<<one, bits, 7)
			if got := restrict.Check(r) == api.OK; got != mayBe(r) {
				t.Errorf("Check(%v) is OK: %v", r, got)
			}
		}
	}
	for flags := -300; flags <= 600; flags++ {
		r := rule(addr(10, 0, 0, 0), 8, flags)
		if got := restrict.Check(r) == api.OK; got != mayBe(r) {
			t.Errorf("Check(%v) is OK: %v", r, got)
		}
	}
}

func TestCheckDrawn(t *testing.T) {
	r := rand.New(rand.NewPCG(61, 6))
	for range 20000 {
		x := drawRule(r)
		if err := restrict.Check(x); err != api.OK {
			t.Fatalf("Check(%v) is %v", x, err)
		}
		x = drawWrongRule(r)
		if got := restrict.Check(x) == api.OK; got != mayBe(x) {
			t.Fatalf("Check(%v) is OK: %v", x, got)
		}
	}
}

func TestMatchWrittenOut(t *testing.T) {
	four := []api.Rule{rule(0, 0, 1), rule(addr(10, 0, 0, 0), 8, 2), rule(addr(10, 0, 0, 0), 8, 4), rule(addr(10, 1, 0, 0), 16, 8)}
	wrong := []api.Rule{rule(addr(10, 0, 0, 1), 8, 64), rule(addr(10, 2, 0, 1), 33, 128), rule(addr(10, 2, 0, 1), 32, 256), rule(addr(10, 2, 0, 1), 32, -1), rule(0, -1, 16)}
	for _, x := range []struct {
		l    []api.Rule
		addr uint32
		want int
	}{
		{four, addr(10, 2, 0, 1), 6},
		{four, addr(10, 1, 0, 1), 8},
		{four, addr(11, 0, 0, 0), 1},
		{four, addr(10, 0, 0, 0), 6},
		{four, addr(10, 255, 255, 255), 6},
		{four, addr(9, 255, 255, 255), 1},
		{four, addr(10, 1, 255, 255), 8},
		{four, addr(10, 2, 0, 0), 6},
		{four, 0, 1},
		{four, 1<<32 - 1, 1},
		{four[1:], addr(11, 0, 0, 0), 0},
		{nil, 0, 0},
		{[]api.Rule{}, 5, 0},
		{wrong, addr(10, 2, 0, 1), 0},
		{append(slices.Clone(wrong), four...), addr(10, 2, 0, 1), 6},
		{append(slices.Clone(four), wrong...), addr(10, 2, 0, 1), 6},
		// A narrower rule without flags hides what a wider one has.
		{[]api.Rule{rule(0, 0, 255), rule(7, 32, 0)}, 7, 0},
		{[]api.Rule{rule(7, 32, 0), rule(0, 0, 255)}, 7, 0},
		{[]api.Rule{rule(7, 32, 0), rule(0, 0, 255)}, 6, 255},
		{[]api.Rule{rule(7, 32, 1), rule(6, 31, 2), rule(4, 30, 4)}, 7, 1},
		{[]api.Rule{rule(7, 32, 1), rule(6, 31, 2), rule(4, 30, 4)}, 6, 2},
		{[]api.Rule{rule(7, 32, 1), rule(6, 31, 2), rule(4, 30, 4)}, 5, 4},
		{[]api.Rule{rule(7, 32, 1), rule(6, 31, 2), rule(4, 30, 4)}, 3, 0},
		{[]api.Rule{rule(1<<32-1, 32, 9), rule(1<<31, 1, 2), rule(1<<32-1, 32, 17)}, 1<<32 - 1, 25},
	} {
		if f := restrict.Match(x.l, x.addr); f != x.want {
			t.Errorf("Match(%v, %x) is %v, want %v", x.l, x.addr, f, x.want)
		}
	}
}

// Match speaks of no MaxRules: any list is matched.
func TestMatchOfManyRules(t *testing.T) {
	var l []api.Rule
	for i := range 100 {
		l = append(l, rule(uint32(i), 32, i))
	}
	for i := range 100 {
		if f := restrict.Match(l, uint32(i)); f != i {
			t.Errorf("Match of %v is %v", i, f)
		}
	}
}

func TestMatchDrawn(t *testing.T) {
	r := rand.New(rand.NewPCG(62, 6))
	for range 4000 {
		l := drawRules(r, true)
		for range 5 {
			a := drawAddr(r)
			if f, want := restrict.Match(l, a), matched(l, a); f != want {
				t.Fatalf("Match(%v, %x) is %v, want %v", l, a, f, want)
			}
		}
	}
}

func TestSortWrittenOut(t *testing.T) {
	ten := addr(10, 0, 0, 0)
	for _, x := range []struct{ l, want []api.Rule }{
		{nil, nil},
		{[]api.Rule{}, nil},
		{[]api.Rule{rule(5, 32, 1)}, []api.Rule{rule(5, 32, 1)}},
		{[]api.Rule{rule(5, 32, 1), rule(5, 32, 1)}, []api.Rule{rule(5, 32, 1)}},
		{[]api.Rule{rule(5, 32, 1), rule(4, 32, 2), rule(5, 32, 6), rule(5, 32, 0)}, []api.Rule{rule(4, 32, 2), rule(5, 32, 7)}},
		{[]api.Rule{rule(ten, 32, 1), rule(ten, 8, 2), rule(ten, 16, 4)}, []api.Rule{rule(ten, 8, 2), rule(ten, 16, 4), rule(ten, 32, 1)}},
		{[]api.Rule{rule(1<<32-1, 32, 255), rule(1<<31, 1, 0), rule(0, 0, 1)}, []api.Rule{rule(0, 0, 1), rule(1<<31, 1, 0), rule(1<<32-1, 32, 255)}},
		{[]api.Rule{rule(6, 32, 1), rule(6, 31, 1)}, []api.Rule{rule(6, 31, 1), rule(6, 32, 1)}},
		{[]api.Rule{rule(6, 32, 128), rule(7, 32, 1), rule(6, 32, 16), rule(0, 0, 2), rule(6, 32, 144)}, []api.Rule{rule(0, 0, 2), rule(6, 32, 144), rule(7, 32, 1)}},
	} {
		if got, err := restrict.Sort(x.l); err != api.OK || !slices.Equal(got, x.want) {
			t.Errorf("Sort(%v) is %v, %v, want %v", x.l, got, err, x.want)
		}
	}
}

func TestSortErrors(t *testing.T) {
	full := make([]api.Rule, api.MaxRules)
	for i := range full {
		full[i] = rule(uint32(40-i), 32, i)
	}
	got, err := restrict.Sort(full)
	if err != api.OK || len(got) != api.MaxRules || got[0] != full[31] || got[31] != full[0] {
		t.Errorf("Sort of MaxRules rules is %v, %v", got, err)
	}
	// Of one range 33 rules are too many too, though they would be one.
	many := make([]api.Rule, api.MaxRules+1)
	wrong := slices.Clone(many)
	wrong[0].Bits = 33
	for _, l := range [][]api.Rule{many, wrong, append(slices.Clone(full), rule(1, 32, 1)), make([]api.Rule, 1000)} {
		if got, err := restrict.Sort(l); len(got) != 0 || err != api.ErrMany {
			t.Errorf("Sort of %v rules is %v, %v", len(l), got, err)
		}
	}
	for _, w := range []api.Rule{rule(0, -1, 0), rule(0, 33, 0), rule(0, 0, -1), rule(0, 0, 256), rule(1, 31, 0)} {
		for i := range full {
			l := slices.Clone(full)
			l[i] = w
			if got, err := restrict.Sort(l); len(got) != 0 || err != api.ErrRange {
				t.Errorf("Sort with %v is %v, %v", w, got, err)
			}
		}
		if got, err := restrict.Sort([]api.Rule{w}); len(got) != 0 || err != api.ErrRange {
			t.Errorf("Sort of %v is %v, %v", w, got, err)
		}
	}
}

// P6.7: Match of Sort's rules is Match of the rules.
func TestSortDrawn(t *testing.T) {
	r := rand.New(rand.NewPCG(63, 6))
	for range 4000 {
		l := drawRules(r, false)
		got, err := restrict.Sort(l)
		if want := sorted(l); err != api.OK || !slices.Equal(got, want) {
			t.Fatalf("Sort(%v) is %v, %v, want %v", l, got, err, want)
		}
		for range 5 {
			a := drawAddr(r)
			if f, want := restrict.Match(got, a), restrict.Match(l, a); f != want {
				t.Fatalf("Match of Sort(%v) at %x is %v, want %v", l, a, f, want)
			}
		}
		again, err := restrict.Sort(got)
		if err != api.OK || !slices.Equal(got, again) {
			t.Fatalf("Sort of Sort(%v) is %v, %v", l, again, err)
		}
	}
}

func TestRulesStayAsTheyAre(t *testing.T) {
	room := []api.Rule{rule(9, 32, 1), rule(5, 32, 2), rule(9, 32, 4), rule(0, 0, 8), rule(77, 32, 16), rule(5, 32, 32)}
	before := slices.Clone(room)
	l := room[:4]
	restrict.Match(l, 9)
	got, _ := restrict.Sort(l)
	want := slices.Clone(got)
	if !slices.Equal(room, before) {
		t.Errorf("Sort and Match change the rules to %v", room)
	}
	got = got[:cap(got)]
	for i := range got {
		got[i] = rule(1, 2, 3)
	}
	if !slices.Equal(room, before) {
		t.Errorf("Sort's answer shares memory with the rules: %v", room)
	}
	if again, _ := restrict.Sort(l); !slices.Equal(again, want) {
		t.Errorf("Sort answers %v, then %v", want, again)
	}
	kept, _ := restrict.Sort(l)
	clear(room)
	if !slices.Equal(kept, want) {
		t.Errorf("Sort keeps the rules: %v", kept)
	}
	// One rule, and rules that are sorted already, are new memory too.
	for _, l := range [][]api.Rule{{rule(5, 32, 2)}, {rule(5, 32, 2), rule(6, 32, 2)}} {
		got, _ := restrict.Sort(l)
		got[0].Flags = 99
		if l[0].Flags != 2 {
			t.Errorf("Sort's answer shares memory with %v", l)
		}
	}
}
