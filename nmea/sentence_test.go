package nmea_test

import (
	"fmt"
	"math/rand/v2"
	"regexp"
	"slices"
	"strings"
	"testing"

	"foliot/api"
	"foliot/nmea"
)

// sumOf says P7.2 bit by bit: a bit of the sum is set if it is in an odd number of bytes.
func sumOf(s string) int {
	sum := 0
	for bit := 1; bit < 256; bit *= 2 {
		set := 0
		for _, b := range []byte(s) {
			if int(b)/bit%2 == 1 {
				set++
			}
		}
		sum += set % 2 * bit
	}
	return sum
}

// sealed is a text with the sum that is right for it.
func sealed(s string) string { return fmt.Sprintf("%s*%02X", s, sumOf(s)) }

// P7.2: the chapter's example, none, one, and pairs that take each other away.
func TestSum(t *testing.T) {
	for _, x := range []struct {
		s    string
		want int
	}{
		{"GPZDA", 72},
		{"", 0},
		{"A", 65},
		{"AA", 0},
		{"AAA", 65},
		{"AB", 3},
		{"A,B", 0x2F},
		{"\x00", 0},
		{"\xff", 255},
		{"\xff\x0f", 240},
		{"\x80\x01", 129},
		{"ä", 0xC3 ^ 0xA4},
		{"$*\r\n", 0x24 ^ 0x2A ^ 0x0D ^ 0x0A},
	} {
		if n := nmea.Sum(x.s); n != x.want {
			t.Errorf("Sum(%q) is %v, want %v", x.s, n, x.want)
		}
	}
	for b := range 256 {
		if n := nmea.Sum(string([]byte{byte(b)})); n != b {
			t.Errorf("Sum of the byte %v is %v", b, n)
		}
	}
}

func drawnBytes(r *rand.Rand, size int) string {
	b := make([]byte, size)
	for i := range b {
		b[i] = byte(r.IntN(256))
	}
	return string(b)
}

// P7.2: drawn texts.
func TestSumDrawn(t *testing.T) {
	r := rand.New(rand.NewPCG(3, 7))
	for range 5000 {
		s := drawnBytes(r, r.IntN(200))
		if n := nmea.Sum(s); n != sumOf(s) {
			t.Fatalf("Sum(%q) is %v, want %v", s, n, sumOf(s))
		}
	}
}

var checkForm = regexp.MustCompile(`(?s)^(.*)\*([0-9A-F]{2})$`)

// checked says P7.3 by a regular expression.
func checked(s string) ([]string, api.Errno) {
	m := checkForm.FindStringSubmatch(wide(s))
	if m == nil {
		return nil, api.ErrText
	}
	head := narrow(m[1])
	if m[2] != fmt.Sprintf("%02X", sumOf(head)) {
		return nil, api.ErrMAC
	}
	fields := []string{""}
	for i := range len(head) {
		if head[i] == ',' {
			fields = append(fields, "")
			continue
		}
		fields[len(fields)-1] += head[i : i+1]
	}
	return fields, api.OK
}

func wantCheck(t *testing.T, s string, want []string, e api.Errno) {
	t.Helper()
	if f, got := nmea.Check(s); !slices.Equal(f, want) || got != e {
		t.Errorf("Check(%q) is %q, %v, want %q, %v", s, f, got, want, e)
	}
}

func TestCheck(t *testing.T) {
	for _, x := range []struct {
		s    string
		want []string
		e    api.Errno
	}{
		// The chapter's examples.
		{"A,B*2F", []string{"A", "B"}, api.OK},
		{"A,B*00", nil, api.ErrMAC},
		{"A,B", nil, api.ErrText},
		{"GPZDA,190000.500000,15,11,2026,00,00*69", []string{"GPZDA", "190000.500000", "15", "11", "2026", "00", "00"}, api.OK},
		// Few bytes.
		{"", nil, api.ErrText},
		{"*", nil, api.ErrText},
		{"*0", nil, api.ErrText},
		{"00", nil, api.ErrText},
		{"000", nil, api.ErrText},
		{"**0", nil, api.ErrText},
		{"***", nil, api.ErrText},
		{"*00", []string{""}, api.OK},
		{"*01", nil, api.ErrMAC},
		{"*10", nil, api.ErrMAC},
		{"A*41", []string{"A"}, api.OK},
		{"A*14", nil, api.ErrMAC}, // the higher digit is the first one
		{"**2A", []string{"*"}, api.OK},
		{",*2C", []string{"", ""}, api.OK},
		{",,*00", []string{"", "", ""}, api.OK},
		// Where the `*` stands.
		{"A*411", nil, api.ErrText},
		{"A*4", nil, api.ErrText},
		{"A41", nil, api.ErrText},
		{"A41*", nil, api.ErrText},
		{"A,B*2F ", nil, api.ErrText},
		{"A,B*2F\r", nil, api.ErrText},
		{"A,B*2F\n", nil, api.ErrText},
		{"A,B**2F", nil, api.ErrMAC},
		{sealed("A*41"), []string{"A*41"}, api.OK},
		{sealed("*,*"), []string{"*", "*"}, api.OK},
		{sealed("A,B*2F"), []string{"A", "B*2F"}, api.OK},
		// Sums of small letters and of other signs: ErrText, right or not.
		{"A,B*2f", nil, api.ErrText},
		{"j@*2a", nil, api.ErrText},
		{"j@*2A", []string{"j@"}, api.OK},
		{"A*4g", nil, api.ErrText},
		{"A*4G", nil, api.ErrText},
		{"A*G1", nil, api.ErrText},
		{"A* 1", nil, api.ErrText},
		{"A*4 ", nil, api.ErrText},
		{"A*+1", nil, api.ErrText},
		{"A*-1", nil, api.ErrText},
		{"A*0x", nil, api.ErrText},
		{"A*4*", nil, api.ErrText},
		{"A*\xc3\xa4", nil, api.ErrText},
		// What else a field may be: anything but a comma.
		{sealed(",A,,B,"), []string{"", "A", "", "B", ""}, api.OK},
		{sealed(" A , B "), []string{" A ", " B "}, api.OK},
		{sealed("$A,\x00,\xff,ä\r\n"), []string{"$A", "\x00", "\xff", "ä\r\n"}, api.OK},
		{sealed(a82 + a82), []string{a82 + a82}, api.OK},
	} {
		wantCheck(t, x.s, x.want, x.e)
		// The tests' own form of the promise has to say the same.
		if f, e := checked(x.s); !slices.Equal(f, x.want) || e != x.e {
			t.Errorf("of %q %q, %v are expected", x.s, f, e)
		}
	}
}

// P7.3: every text of 0 to 4 bytes out of those that matter.
func TestCheckShortTexts(t *testing.T) {
	texts := []string{""}
	for i := 0; i < len(texts) && len(texts[i]) < 4; i++ {
		for _, c := range "*,01234ACaf/:@G" {
			texts = append(texts, texts[i]+string(c))
		}
	}
	right := 0
	for _, s := range texts {
		want, e := checked(s)
		wantCheck(t, s, want, e)
		if e == api.OK {
			right++
		}
	}
	if right < 5 {
		t.Errorf("only %v of the texts are right", right)
	}
}

// P7.3: of all pairs of bytes behind the `*` one is right; those that are no digits are ErrText, not ErrMAC.
func TestCheckEachSum(t *testing.T) {
	for _, head := range []string{"A,B", "", "j@", "\xa0,"} {
		right := 0
		for high := range 256 {
			for low := range 256 {
				s := head + "*" + string([]byte{byte(high), byte(low)})
				want, e := checked(s)
				wantCheck(t, s, want, e)
				if e == api.OK {
					right++
				}
			}
		}
		if right != 1 {
			t.Errorf("%q has %v right sums", head, right)
		}
	}
	for n := range 256 {
		head := string([]byte{byte(n), 0})
		if f, e := nmea.Check(fmt.Sprintf("%s*%02X", head, n)); e != api.OK || strings.Join(f, ",") != head {
			t.Errorf("the sum %02X: %q, %v", n, f, e)
		}
	}
}

// P7.3: drawn texts, right ones, and ones of which a byte is another, missing, or too much.
func TestCheckDrawn(t *testing.T) {
	r := rand.New(rand.NewPCG(4, 7))
	seen := map[api.Errno]int{}
	for range 20000 {
		s := sealed(strings.ReplaceAll(drawnBytes(r, r.IntN(40)), "A", ","))
		s = damaged(r, s, "*,0A9Fa")
		want, e := checked(s)
		wantCheck(t, s, want, e)
		seen[e]++
	}
	for _, e := range []api.Errno{api.OK, api.ErrText, api.ErrMAC} {
		if seen[e] < 1000 {
			t.Errorf("the answer %v came %v times", e, seen[e])
		}
	}
}

// damaged changes, takes away or puts in a byte of s, one of those of others if it may be any, or does nothing.
func damaged(r *rand.Rand, s, others string) string {
	at := r.IntN(len(s))
	other := others[r.IntN(len(others))]
	switch r.IntN(4) {
	case 0:
		return s[:at] + string([]byte{other}) + s[at+1:]
	case 1:
		return s[:at] + s[at+1:]
	case 2:
		return s[:at] + string([]byte{other}) + s[at:]
	}
	return s
}

// R3: the fields are the caller's.
func TestCheckAnswersAreTheCallers(t *testing.T) {
	s := sealed("A,B,C")
	first, _ := nmea.Check(s)
	second, _ := nmea.Check(s)
	_ = append(first, "wiped")
	for i := range first[:cap(first)] {
		first[:cap(first)][i] = "wiped"
	}
	if !slices.Equal(second, []string{"A", "B", "C"}) {
		t.Errorf("the second answer became %q", second)
	}
	wantCheck(t, s, []string{"A", "B", "C"}, api.OK)
}
