package conf_test

import (
	"math/rand/v2"
	"net/netip"
	"regexp"
	"slices"
	"strconv"
	"strings"
	"testing"

	"foliot/api"
	"foliot/conf"
)

// The signatures that the chapter lists.
var (
	_ func(line string) ([]string, api.Errno)     = conf.Words
	_ func(s string) (uint32, api.Errno)          = conf.Addr
	_ func(a uint32) string                       = conf.PrintAddr
	_ func() api.Config                           = conf.Default
	_ func(c api.Config) api.Errno                = conf.Check
	_ func(s string) (api.Config, int, api.Errno) = conf.Parse
	_ func(c api.Config) (string, api.Errno)      = conf.Print
)

func draws(seed uint64) *rand.Rand { return rand.New(rand.NewPCG(seed, 5)) }

func pick[T any](r *rand.Rand, list ...T) T { return list[r.IntN(len(list))] }

func holdWords(t *testing.T, line string, want ...string) {
	t.Helper()
	if got, err := conf.Words(line); err != api.OK || !slices.Equal(got, want) {
		t.Errorf("Words of %q are %q, %v, not %q", line, got, err, want)
	}
}

func holdNoWords(t *testing.T, line string) {
	t.Helper()
	if got, err := conf.Words(line); err != api.ErrToken || len(got) != 0 {
		t.Errorf("Words of %q are %q, %v, not ErrToken", line, got, err)
	}
}

// P5.1: words, blanks and tabs, remarks.
func TestWords(t *testing.T) {
	for _, line := range []string{"", " ", "\t", " \t \t", "#", "# a b", " \t# a", "##", "#\x00\n\x7f\xff"} {
		holdWords(t, line)
	}
	for _, line := range []string{"a b", "a\tb", " a b", "\ta b", "a b ", "a b\t", "a  b", "a \t b", "\t\t a\t\tb \t", "a b#", "a b #", "a b#c", "a b # c d", "a b##", "a b#\x01\x80\n"} {
		holdWords(t, line, "a", "b")
	}
	holdWords(t, "server 10.0.0.1 iburst # a", "server", "10.0.0.1", "iburst")
	holdWords(t, "a", "a")
	holdWords(t, "a#b", "a")
	holdWords(t, "!\"$%&'()*+,-./:;<=>?@[\\]^_`{|}~", "!\"$%&'()*+,-./:;<=>?@[\\]^_`{|}~")
	holdWords(t, strings.Repeat("x", 5000), strings.Repeat("x", 5000))
	holdWords(t, strings.Repeat("x ", 500), slices.Repeat([]string{"x"}, 500)...)
}

// P5.1: which bytes are right, wherever they stand.
func TestWordsOfEachByte(t *testing.T) {
	for b := range 256 {
		s := string([]byte{byte(b)})
		switch {
		case b == ' ' || b == '\t':
			holdWords(t, s)
			holdWords(t, "a"+s+"b", "a", "b")
		case b == '#':
			holdWords(t, "a"+s+"b", "a")
		case b >= 0x21 && b <= 0x7E:
			holdWords(t, s, s)
			holdWords(t, "a"+s+"b", "a"+s+"b")
		default:
			for _, line := range []string{s, "a" + s, s + "a", "a" + s + "b", "a " + s, s + " a", " " + s + " ", "\t" + s, "a" + s + "#", s + "# a", s + s} {
				holdNoWords(t, line)
			}
		}
		holdWords(t, "a #"+s, "a")
		holdWords(t, "#"+s+"#"+s)
	}
}

var (
	rightLine = regexp.MustCompile(`^[\x09\x20-\x7E]*$`)
	wordForm  = regexp.MustCompile(`[^ \t]+`)
)

// P5.1 by the library's expressions, of drawn lines.
func TestWordsOfDrawnLines(t *testing.T) {
	r := draws(1)
	for range 20000 {
		b := make([]byte, r.IntN(12))
		for i := range b {
			b[i] = pick[byte](r, ' ', ' ', '\t', '\t', 'a', 'b', 'c', '!', '~', '"')
			switch r.IntN(40) {
			case 0:
				b[i] = '#'
			case 1:
				b[i] = byte(r.IntN(256))
			}
		}
		line := string(b)
		said, _, _ := strings.Cut(line, "#")
		if rightLine.MatchString(said) {
			holdWords(t, line, wordForm.FindAllString(said, -1)...)
		} else {
			holdNoWords(t, line)
		}
	}
}

// R3: what comes out is the caller's.
func TestWordsAreNew(t *testing.T) {
	const line = "one two three"
	first, _ := conf.Words(line)
	second, _ := conf.Words(line)
	clear(first[:cap(first)])
	if !slices.Equal(second, []string{"one", "two", "three"}) {
		t.Errorf("Words share memory: %q", second)
	}
	holdWords(t, line, "one", "two", "three")
}

func holdAddr(t *testing.T, s string, want uint32, wrong api.Errno) {
	t.Helper()
	if got, err := conf.Addr(s); got != want || err != wrong {
		t.Errorf("Addr of %q is %d, %v, not %d, %v", s, got, err, want, wrong)
	}
}

// P5.2: addresses and what is none.
func TestAddr(t *testing.T) {
	for s, want := range map[string]uint32{
		"0.0.0.0":         0,
		"0.0.0.1":         1,
		"0.0.1.0":         1 << 8,
		"0.1.0.0":         1 << 16,
		"1.0.0.0":         1 << 24,
		"10.0.0.1":        0x0A000001,
		"1.2.3.4":         0x01020304,
		"255.255.255.255": 1<<32 - 1,
		"255.0.0.0":       255 << 24,
		"0.0.0.255":       255,
		"224.0.1.1":       0xE0000101,
		"99.100.109.110":  0x63646D6E,
	} {
		holdAddr(t, s, want, api.OK)
		if got := conf.PrintAddr(want); got != s {
			t.Errorf("PrintAddr of %d is %q, not %q", want, got, s)
		}
	}
	for _, s := range []string{
		"", ".", "...", "....", "1", "1.2", "1.2.3", "1.2.3.", ".1.2.3", "1..2.3", "1.2..3", "1.2.3.4.", ".1.2.3.4", "1.2.3.4.5", "1..2.3.4",
		"256.0.0.0", "0.256.0.0", "0.0.256.0", "0.0.0.256", "0.0.0.999", "0.0.0.1000", "0.0.0.4294967296", "0.0.0.9999999999", "0.0.0.10000000000", "0.0.0.18446744073709551616",
		"00.0.0.0", "0.00.0.0", "0.0.01.0", "0.0.0.00", "0.0.0.01", "010.0.0.1", "0.0.0.0255",
		" 1.2.3.4", "1.2.3.4 ", "1 .2.3.4", "1. 2.3.4", "1.2.3.4\n", "1.2.3.4/8", "-1.2.3.4", "+1.2.3.4", "1.2.3.-4", "1.2.3.a", "a.b.c.d", "0x1.2.3.4", "1,2,3,4", "1.2.3:4", "1.2.3/4", "::1", "default",
		"１.2.3.4", "1.2.3.4\x00", "1.2.3.\xff",
	} {
		holdAddr(t, s, 0, api.ErrAddr)
	}
}

// P5.2: each number in each of the four places, and behind its end.
func TestAddrOfEachNumber(t *testing.T) {
	for n := range 300 {
		for place := range 4 {
			parts := []string{"7", "7", "7", "7"}
			parts[place] = strconv.Itoa(n)
			s := strings.Join(parts, ".")
			if n > 255 {
				holdAddr(t, s, 0, api.ErrAddr)
				continue
			}
			shift := 24 - 8*place
			want := uint32(0x07070707)&^(255<<shift) | uint32(n)<<shift
			holdAddr(t, s, want, api.OK)
			if got := conf.PrintAddr(want); got != s {
				t.Errorf("PrintAddr of %d is %q, not %q", want, got, s)
			}
		}
	}
}

// P5.2 against the library's addresses, of drawn texts and drawn numbers.
func TestAddrOfDrawnTexts(t *testing.T) {
	r := draws(2)
	for range 20000 {
		b := make([]byte, r.IntN(16))
		for i := range b {
			b[i] = pick[byte](r, '.', '.', '.', '0', '1', '2', '5', '9')
		}
		want := uint32(0)
		wrong := api.ErrAddr
		if a, err := netip.ParseAddr(string(b)); err == nil {
			four := a.As4()
			want, wrong = uint32(four[0])<<24|uint32(four[1])<<16|uint32(four[2])<<8|uint32(four[3]), api.OK
		}
		holdAddr(t, string(b), want, wrong)

		a := r.Uint32() & r.Uint32()
		s := netip.AddrFrom4([4]byte{byte(a >> 24), byte(a >> 16), byte(a >> 8), byte(a)}).String()
		if got := conf.PrintAddr(a); got != s {
			t.Errorf("PrintAddr of %d is %q, not %q", a, got, s)
		}
		holdAddr(t, s, a, api.OK)
	}
}
