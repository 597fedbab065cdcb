package conf

import (
	"iter"
	"math"
	"slices"
	"strings"

	"foliot/api"
)

const hexDigits = "0123456789abcdef"

// line is what is still to be read of a line. Behind the first thing that is wrong it has no words, and that error stays: so what reads it need not ask whether there was one.
type line struct {
	words []string
	wrong api.Errno
}

func (l *line) fail(err api.Errno) {
	if l.wrong == api.OK {
		l.wrong = err
		l.words = nil
	}
}

func (l *line) hasMore() bool { return len(l.words) > 0 }

// end is the line's error, when all that may stand there is read.
func (l *line) end() api.Errno {
	if l.hasMore() {
		l.fail(api.ErrToken)
	}
	return l.wrong
}

func (l *line) word() string {
	if !l.hasMore() {
		l.fail(api.ErrToken)
		return ""
	}
	word := l.words[0]
	l.words = l.words[1:]
	return word
}

// wordThat is a word for which may holds.
func (l *line) wordThat(may func(string) bool) string {
	word := l.word()
	if !may(word) {
		l.fail(api.ErrToken)
	}
	return word
}

func (l *line) name() string { return l.wordThat(isName) }

func (l *line) statistic() string { return l.wordThat(isStatistic) }

// pick is which of two words stands there: whether it is the second.
func (l *line) pick(first, second string) bool {
	return l.wordThat(func(s string) bool { return s == first || s == second }) == second
}

func (l *line) number() int { return l.numberOf(l.word()) }

func (l *line) numberOf(text string) int {
	n, ok := number(text)
	if !ok {
		l.fail(api.ErrNumber)
	}
	return n
}

// signed is a number that may be below 0; there is but one way to write 0.
func (l *line) signed() int {
	text, below := strings.CutPrefix(l.word(), "-")
	n := l.numberOf(text)
	if !below {
		return n
	}
	if n == 0 {
		l.fail(api.ErrNumber)
	}
	return -n
}

// unit is a clock's. One beyond all addresses becomes the last, that Check refuses it, too.
func (l *line) unit() uint32 { return uint32(min(l.number(), math.MaxUint32)) }

func (l *line) address() uint32 { return l.addressOf(l.word()) }

func (l *line) addressOf(text string) uint32 {
	addr, err := Addr(text)
	if err != api.OK {
		l.fail(err)
	}
	return addr
}

// addresses is a range: its first address, and how many bits all of it has in common.
func (l *line) addresses() (uint32, int) {
	word := l.word()
	if word == "default" {
		return 0, 0
	}
	text, prefix, isCut := strings.Cut(word, "/")
	addr := l.addressOf(text)
	if !isCut {
		return addr, 32
	}
	bits := l.numberOf(prefix)
	if bits > 32 {
		l.fail(api.ErrNumber)
	}
	return addr, bits
}

// secret is a key's bytes.
func (l *line) secret() []byte {
	text := l.word()
	if len(text)%2 != 0 || len(text) > 2*api.MaxKey {
		l.fail(api.ErrNumber)
		return nil
	}
	var secret []byte
	for i := 0; i < len(text); i += 2 {
		high, low := strings.IndexByte(hexDigits, text[i]), strings.IndexByte(hexDigits, text[i+1])
		if high < 0 || low < 0 {
			l.fail(api.ErrNumber)
			return nil
		}
		secret = append(secret, byte(high<<4|low))
	}
	return secret
}

// options are the words that begin what may still stand; whoever ranges over them reads what belongs to each.
func (l *line) options(may []string) iter.Seq[string] {
	return func(yield func(string) bool) {
		var said []string
		for l.hasMore() {
			option := l.word()
			switch {
			case !slices.Contains(may, option):
				l.fail(api.ErrToken)
			case slices.Contains(said, option):
				l.fail(api.ErrTwice)
			case !yield(option):
				return
			}
			said = append(said, option)
		}
	}
}

// several are all that are left, one at least.
func several[T any](l *line, read func() T) []T {
	list := []T{read()}
	for l.hasMore() {
		list = append(list, read())
	}
	return list
}
