package nmea

import (
	"strings"

	"foliot/api"
)

const (
	hexDigits = "0123456789ABCDEF"
	tailSize  = 3 // bytes of a `*` and a sum
)

func Sum(s string) int {
	sum := byte(0)
	for i := range len(s) {
		sum ^= s[i]
	}
	return int(sum)
}

func Check(s string) ([]string, api.Errno) {
	star := len(s) - tailSize
	if star < 0 || s[star] != '*' {
		return nil, api.ErrText
	}
	high := strings.IndexByte(hexDigits, s[star+1])
	low := strings.IndexByte(hexDigits, s[star+2])
	if high < 0 || low < 0 {
		return nil, api.ErrText
	}
	if high<<4|low != Sum(s[:star]) {
		return nil, api.ErrMAC
	}
	// Split off a copy, as an answer shares nothing with what was handed in.
	return strings.Split(strings.Clone(s[:star]), ","), api.OK
}

// withSum is the sentence with the `*` and the sum that Check asks for.
func withSum(s string) string {
	sum := Sum(s)
	return s + "*" + string([]byte{hexDigits[sum>>4], hexDigits[sum&15]})
}
