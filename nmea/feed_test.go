package nmea_test

import (
	"bytes"
	"math/rand/v2"
	"regexp"
	"slices"
	"strings"
	"testing"

	"foliot/api"
	"foliot/nmea"
	"foliot/stamp"
)

// The document's signatures.
var (
	_ func() *nmea.Line                    = nmea.New
	_ func(*nmea.Line, []byte) []string    = (*nmea.Line).Feed
	_ func(*nmea.Line) int                 = (*nmea.Line).Lost
	_ func(string) int                     = nmea.Sum
	_ func(string) ([]string, api.Errno)   = nmea.Check
	_ func(string) (stamp.Date, api.Errno) = nmea.Time
	_ func(stamp.Date) (string, api.Errno) = nmea.Write
)

// a82 has as many bytes as a sentence may have.
var a82 = strings.Repeat("a", 82)

// wide has a rune for each byte, as regular expressions look at runes.
func wide(s string) string {
	runes := make([]rune, len(s))
	for i := range len(s) {
		runes[i] = rune(s[i])
	}
	return string(runes)
}

// narrow is what wide was made of.
func narrow(s string) string {
	var text []byte
	for _, r := range s {
		text = append(text, byte(r))
	}
	return string(text)
}

var (
	doneForm = regexp.MustCompile(`^\$(?:([ -#%-~]{0,81})\r|([ -#%-~]{0,82}))\n`)
	openForm = regexp.MustCompile(`^\$(?:[ -#%-~]{0,81}\r|[ -#%-~]{0,82})$`)
)

// expected says P7.1 of all bytes that came: each `$` begins a sentence, which is done, or open at the end, or lost.
func expected(all string) ([]string, int) {
	var told []string
	lost := 0
	rest := wide(all)
	for {
		first := strings.IndexByte(rest, '$')
		if first < 0 || openForm.MatchString(rest[first:]) {
			return told, lost
		}
		rest = rest[first:]
		if m := doneForm.FindStringSubmatch(rest); m != nil {
			told = append(told, narrow(m[1]+m[2]))
		} else {
			lost++
		}
		rest = rest[1:]
	}
}

// feedAll tells what came of the pieces all in all.
func feedAll(l *nmea.Line, pieces ...string) []string {
	var told []string
	for _, p := range pieces {
		told = append(told, l.Feed([]byte(p))...)
	}
	return told
}

func wantFed(t *testing.T, text string, want []string, lost int) {
	t.Helper()
	l := nmea.New()
	if told := l.Feed([]byte(text)); !slices.Equal(told, want) || l.Lost() != lost {
		t.Errorf("of %q come %q, %v lost, want %q, %v", text, told, l.Lost(), want, lost)
	}
	// The tests' own form of the promise has to say the same.
	if told, n := expected(text); !slices.Equal(told, want) || n != lost {
		t.Errorf("of %q %q, %v are expected, want %q, %v", text, told, n, want, lost)
	}
}

// P7.1: the chapter's example.
func TestFeedExample(t *testing.T) {
	l := nmea.New()
	if told := l.Feed([]byte("x$a")); len(told) != 0 || l.Lost() != 0 {
		t.Errorf("%q, %v", told, l.Lost())
	}
	if told := l.Feed([]byte("b\r\n$c$d\n")); !slices.Equal(told, []string{"ab", "d"}) || l.Lost() != 1 {
		t.Errorf("%q, %v", told, l.Lost())
	}
}

// P7.1: ordinary sentences, and what begins and ends them.
func TestFeedSentences(t *testing.T) {
	for _, x := range []struct {
		text string
		want []string
		lost int
	}{
		{"$GPZDA,190000.500000,15,11,2026,00,00*69\r\n", []string{"GPZDA,190000.500000,15,11,2026,00,00*69"}, 0},
		{"$a\n", []string{"a"}, 0},
		{"$a\r\n", []string{"a"}, 0},
		{"$a\r\n$b\n$c\r\n", []string{"a", "b", "c"}, 0},
		{"$a\r\n\r\n\n\r$b\n", []string{"a", "b"}, 0},
		{"$same\n$same\n", []string{"same", "same"}, 0},
		{"noise$a\nnoise\r\n$b\nnoise", []string{"a", "b"}, 0},
		{"$ ~\n", []string{" ~"}, 0},
		{"$a*b,c\n", []string{"a*b,c"}, 0},
		// Nothing, and outside of every sentence.
		{"", nil, 0},
		{"\n", nil, 0},
		{"\r\n", nil, 0},
		{"\r", nil, 0},
		{"abc\r\n", nil, 0},
		{strings.Repeat("noise\r\x00\xff", 100), nil, 0},
		// The empty sentence.
		{"$\n", []string{""}, 0},
		{"$\r\n", []string{""}, 0},
		{"$\n$\r\n$\n", []string{"", "", ""}, 0},
		// Sentences that have no end yet.
		{"$", nil, 0},
		{"$a", nil, 0},
		{"$a\r", nil, 0},
		{"$\r", nil, 0},
		// A `$` within one.
		{"$$", nil, 1},
		{"$$$$", nil, 3},
		{"$a$b\n", []string{"b"}, 1},
		{"$$a\n", []string{"a"}, 1},
		{"$a\r$b\n", []string{"b"}, 1},
		{"$a\r$\n", []string{""}, 1},
		{"$a$\r\n", []string{""}, 1},
		{"$long one$b\n", []string{"b"}, 1},
		{"$a\n$b$c\r\n$d$", []string{"a", "c"}, 2},
		// A carriage return that something else follows.
		{"$a\rb\n", nil, 1},
		{"$a\r\r\n", nil, 1},
		{"$\r\r\n", nil, 1},
		{"$\ra\n", nil, 1},
		{"$a\r \r\n", nil, 1},
		{"$a\r\x00\n", nil, 1},
		{"$a\rb$c\n", []string{"c"}, 1},
		{"$a\r\r\r\r\n", nil, 1},
		{"$a\r\r$b\r\n", []string{"b"}, 1},
		// Bytes that may not be.
		{"$a\x00b\n$c\n", []string{"c"}, 1},
		{"$\x1f\n", nil, 1},
		{"$\x7f\n", nil, 1},
		{"$\x80\n", nil, 1},
		{"$\xff\xff\xff\n", nil, 1},
		{"$a\tb\n", nil, 1},
		{"$ä\n", nil, 1},
		{"$\x00$\x00$\x00", nil, 3},
	} {
		wantFed(t, x.text, x.want, x.lost)
	}
}

// P7.1: MaxSerial bytes, one less, one more; a carriage return counts.
func TestFeedLengths(t *testing.T) {
	if api.MaxSerial != len(a82) {
		t.Fatalf("MaxSerial is %v", api.MaxSerial)
	}
	for _, x := range []struct {
		text string
		want []string
		lost int
	}{
		{"$" + a82[:81] + "\n", []string{a82[:81]}, 0},
		{"$" + a82 + "\n", []string{a82}, 0},
		{"$" + a82 + "a\n", nil, 1},
		{"$" + a82[:80] + "\r\n", []string{a82[:80]}, 0},
		{"$" + a82[:81] + "\r\n", []string{a82[:81]}, 0},
		{"$" + a82 + "\r\n", nil, 1},
		{"$" + a82 + "\r", nil, 1},
		{"$" + a82, nil, 0},
		{"$" + a82 + "a", nil, 1},
		{"$" + a82[:81] + "\r", nil, 0},
		{"$" + a82[:81] + "\r\r", nil, 1},
		{"$" + a82[:81] + "\ra", nil, 1},
		{"$" + a82 + "$", nil, 1},
		{"$" + a82 + "$b\n", []string{"b"}, 1},
		{"$" + a82[:81] + "\r$b\n", []string{"b"}, 1},
		{"$" + a82 + "\x00\n", nil, 1},
		{"$" + a82[:81] + "\x00\n", nil, 1},
		{"$" + a82 + a82 + a82 + "\n$b\n", []string{"b"}, 1},
		// A full sentence leaves nothing to the one behind it.
		{"$" + a82 + "\n$" + a82 + "\n$b\n", []string{a82, a82, "b"}, 0},
		{"$" + a82 + "a$" + a82 + "\n", []string{a82}, 1},
		{"$" + a82[:50] + "$" + a82[:50] + "\n", []string{a82[:50]}, 1},
	} {
		wantFed(t, x.text, x.want, x.lost)
	}
}

// P7.1: each byte outside of a sentence, within one, and behind a carriage return.
func TestFeedEachByte(t *testing.T) {
	for n := range 256 {
		c := string([]byte{byte(n)})
		switch {
		case c == "$":
			wantFed(t, "x"+c+"a\n", []string{"a"}, 0)
			wantFed(t, "$x"+c+"a\n", []string{"a"}, 1)
			wantFed(t, "$x\r"+c+"a\n", []string{"a"}, 1)
			continue
		case c == "\n":
			wantFed(t, "$x"+c+"a\n", []string{"x"}, 0)
			wantFed(t, "$x\r"+c+"a\n", []string{"x"}, 0)
		case n >= 0x20 && n <= 0x7E:
			wantFed(t, "$x"+c+"a\n", []string{"x" + c + "a"}, 0)
			wantFed(t, "$"+c+"\r\n", []string{c}, 0)
			wantFed(t, "$x\r"+c+"\n", nil, 1)
		default:
			wantFed(t, "$x"+c+"a\n", nil, 1)
			wantFed(t, "$"+c+"a\n", nil, 1)
			wantFed(t, "$x\r"+c+"\n", nil, 1)
		}
		wantFed(t, c+"a\n", nil, 0)
		wantFed(t, "a"+c+"$b\n", []string{"b"}, 0)
	}
}

// drawnText is a stream of bytes of which sentences, right and wrong ones, are made often enough.
func drawnText(r *rand.Rand) string {
	var b strings.Builder
	for range r.IntN(30) {
		switch r.IntN(12) {
		case 0, 1, 2:
			b.WriteString("$")
		case 3, 4:
			b.WriteString("\n")
		case 5:
			b.WriteString("\r")
		case 6, 7:
			b.WriteString("\r\n")
		case 8:
			b.WriteByte(byte(r.IntN(256)))
		case 9:
			b.WriteString(a82[:76+r.IntN(7)])
		default:
			b.WriteString("word"[:1+r.IntN(4)])
		}
	}
	return b.String()
}

// drawnPieces cuts a text, some of the pieces being empty.
func drawnPieces(r *rand.Rand, text string) []string {
	var pieces []string
	for len(text) > 0 {
		n := min(r.IntN(1+r.IntN(100)), len(text))
		pieces = append(pieces, text[:n])
		text = text[n:]
	}
	return pieces
}

// P7.1, P7.6: drawn bytes, at once and in pieces; Lost behind each of them.
func TestFeedDrawn(t *testing.T) {
	r := rand.New(rand.NewPCG(1, 7))
	sentences, losses := 0, 0
	for range 20000 {
		text := drawnText(r)
		want, lost := expected(text)
		wantFed(t, text, want, lost)
		l := nmea.New()
		var told []string
		gone := 0
		for _, p := range drawnPieces(r, text) {
			told = append(told, l.Feed([]byte(p))...)
			gone += len(p)
			if wantNow, lostNow := expected(text[:gone]); !slices.Equal(told, wantNow) || l.Lost() != lostNow {
				t.Fatalf("of %q in pieces come %q, %v lost, want %q, %v", text[:gone], told, l.Lost(), wantNow, lostNow)
			}
		}
		sentences += len(want)
		losses += lost
	}
	if sentences < 10000 || losses < 10000 {
		t.Errorf("only %v sentences and %v losses were drawn", sentences, losses)
	}
}

// P7.6: what is fed in pieces is what is fed at once, wherever it is cut.
func TestFeedCutAnywhere(t *testing.T) {
	text := "x$a\r\n$b$c\r\r\n$" + a82 + "\n$" + a82[:81] + "\r\n$" + a82 + "\r\n$\x00$\r\n\n$d\re$\n$f"
	want, lost := expected(text)
	if len(want) != 5 || lost != 5 {
		t.Fatalf("%q, %v are expected", want, lost)
	}
	for i := range len(text) + 1 {
		for j := i; j <= len(text); j++ {
			l := nmea.New()
			if told := feedAll(l, text[:i], text[i:j], text[j:]); !slices.Equal(told, want) || l.Lost() != lost {
				t.Fatalf("cut at %v and %v: %q, %v lost", i, j, told, l.Lost())
			}
		}
	}
	l := nmea.New()
	if told := feedAll(l, strings.Split(text, "")...); !slices.Equal(told, want) || l.Lost() != lost {
		t.Errorf("byte by byte: %q, %v lost", told, l.Lost())
	}
}

// P7.6: a sentence of printable bytes of at most 81 bytes is told, whatever came ahead.
func TestFeedWhateverCameAhead(t *testing.T) {
	r := rand.New(rand.NewPCG(2, 7))
	for range 5000 {
		sentence := make([]byte, r.IntN(82))
		for i := range sentence {
			sentence[i] = byte(0x20 + r.IntN(0x5F))
			if sentence[i] == '$' {
				sentence[i] = '#'
			}
		}
		l := nmea.New()
		ahead := drawnText(r)
		l.Feed([]byte(ahead))
		if told := l.Feed([]byte("$" + string(sentence) + "\r\n")); !slices.Equal(told, []string{string(sentence)}) {
			t.Fatalf("behind %q %q comes as %q", ahead, sentence, told)
		}
	}
}

// P7.1: no bytes change nothing, whether nil or none.
func TestFeedNothing(t *testing.T) {
	l := nmea.New()
	for _, x := range []struct {
		text string
		want []string
		lost int
	}{
		{"", nil, 0}, {"$a", nil, 0}, {"\r", nil, 0}, {"\n", []string{"a"}, 0}, {"$b\r", nil, 0}, {"$c", nil, 1}, {"\n", []string{"c"}, 1}, {"\n", nil, 1},
	} {
		if told := l.Feed([]byte(x.text)); !slices.Equal(told, x.want) || l.Lost() != x.lost {
			t.Errorf("%q: %q, %v lost", x.text, told, l.Lost())
		}
		for range 2 {
			if told := append(l.Feed(nil), l.Feed([]byte{})...); len(told) != 0 || l.Lost() != x.lost {
				t.Errorf("nothing behind %q: %q, %v lost", x.text, told, l.Lost())
			}
		}
	}
	if nmea.New().Lost() != 0 {
		t.Error("a new line has lost something")
	}
}

// R3: bytes that are handed in stay, those behind them too, and are not kept.
func TestFeedKeepsNothing(t *testing.T) {
	l := nmea.New()
	room := []byte("x$ab$cd\r\n$efuntouched")
	before := bytes.Clone(room)
	told := l.Feed(room[:12])
	if !bytes.Equal(room, before) {
		t.Errorf("Feed made %q of %q", room, before)
	}
	for i := range room {
		room[i] = '$'
	}
	if !slices.Equal(told, []string{"cd"}) {
		t.Errorf("the answer became %q", told)
	}
	if told = l.Feed([]byte("g\n")); !slices.Equal(told, []string{"efg"}) || l.Lost() != 1 {
		t.Errorf("behind other bytes in the caller's room: %q, %v lost", told, l.Lost())
	}
}

// R3: answers are the caller's; a later Feed does not change an earlier one's, nor the other way about.
func TestFeedAnswersAreTheCallers(t *testing.T) {
	l := nmea.New()
	first := l.Feed([]byte("$one\n$two\n$th"))
	kept := slices.Clone(first)
	second := l.Feed([]byte("ree\n$four\n"))
	if !slices.Equal(first, kept) {
		t.Errorf("the first answer became %q", first)
	}
	first = append(first[:1:cap(first)], "wiped", "wiped", "wiped")
	for i := range first[:cap(first)] {
		first[:cap(first)][i] = "wiped"
	}
	if !slices.Equal(second, []string{"three", "four"}) {
		t.Errorf("the second answer became %q", second)
	}
	if third := l.Feed([]byte("$five\n")); !slices.Equal(third, []string{"five"}) {
		t.Errorf("the third answer is %q", third)
	}
}

// R3: two lines have nothing in common.
func TestLinesAreApart(t *testing.T) {
	l, other := nmea.New(), nmea.New()
	l.Feed([]byte("$a$b"))
	if told := other.Feed([]byte("c\n$d")); len(told) != 0 || other.Lost() != 0 {
		t.Errorf("the other line: %q, %v lost", told, other.Lost())
	}
	if told := l.Feed([]byte("\n")); !slices.Equal(told, []string{"b"}) || l.Lost() != 1 {
		t.Errorf("the line: %q, %v lost", told, l.Lost())
	}
	if told := other.Feed([]byte("\n")); !slices.Equal(told, []string{"d"}) || other.Lost() != 0 {
		t.Errorf("the other line: %q, %v lost", told, other.Lost())
	}
}

// P7.1: many sentences, and many losses.
func TestFeedMany(t *testing.T) {
	const count = 100000
	l := nmea.New()
	told := l.Feed([]byte(strings.Repeat("$a$b\r\n$\x00", count)))
	if len(told) != count || slices.ContainsFunc(told, func(s string) bool { return s != "b" }) {
		t.Errorf("%v sentences are told", len(told))
	}
	if l.Lost() != 2*count {
		t.Errorf("%v are lost", l.Lost())
	}
}
