package conf

import (
	"strconv"
	"strings"

	"foliot/api"
)

// maxDigits is the most that a number in a text has (R7).
const maxDigits = 10

func Words(line string) ([]string, api.Errno) {
	var words []string
	at, first := 0, 0

between:
	if at == len(line) || line[at] == '#' {
		goto end
	}
	if line[at] == ' ' || line[at] == '\t' {
		at++
		goto between
	}
	if !isWordByte(line[at]) {
		goto wrong
	}
	first = at

within:
	at++
	if at < len(line) && isWordByte(line[at]) {
		goto within
	}
	// A copy, so that a word does not hold the whole text it was cut from.
	words = append(words, strings.Clone(line[first:at]))
	goto between

end:
	return words, api.OK

wrong:
	return nil, api.ErrToken
}

func isWordByte(b byte) bool { return b > ' ' && b <= '~' && b != '#' }

func Addr(s string) (uint32, api.Errno) {
	// A fifth piece is enough to tell that there are too many.
	parts := strings.SplitN(s, ".", 5)
	if len(parts) != 4 {
		return 0, api.ErrAddr
	}
	var addr uint32
	for _, part := range parts {
		n, ok := number(part)
		if !ok || n > 255 {
			return 0, api.ErrAddr
		}
		addr = addr<<8 | uint32(n)
	}
	return addr, api.OK
}

func PrintAddr(a uint32) string {
	var made []byte
	for shift := 24; shift >= 0; shift -= 8 {
		made = strconv.AppendInt(made, int64(a>>shift&255), 10)
		if shift > 0 {
			made = append(made, '.')
		}
	}
	return string(made)
}

// number is what a text says, and whether it says one.
func number(s string) (int, bool) {
	if len(s) < 1 || len(s) > maxDigits || len(s) > 1 && s[0] == '0' {
		return 0, false
	}
	n := 0
	for i := range len(s) {
		if s[i] < '0' || s[i] > '9' {
			return 0, false
		}
		n = n*10 + int(s[i]-'0')
	}
	return n, true
}
