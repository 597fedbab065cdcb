package nmea

import (
	"strings"

	"foliot/api"
	"foliot/stamp"
)

const (
	nameSize    = 5 // bytes of a sentence's first field: two of who speaks, three of what is said
	speakerSize = 2

	fieldsZDA = 5
	fieldsRMC = 10

	firstYear = 80 // years of two digits are 1980 to 2079

	maxPlaces = 6 // digits behind a second's point
	million   = 1000000
	fracBits  = 32 // Frac is in 2^-32 seconds
)

func Time(s string) (stamp.Date, api.Errno) {
	fields, e := Check(s)
	if e != api.OK {
		return stamp.Date{}, e
	}
	c, ok := civil(fields)
	if !ok {
		return stamp.Date{}, api.ErrText
	}
	return stamp.ToDate(c)
}

// civil is what a sentence's fields, of which there is one at least, tell of the time, and whether they tell it.
func civil(fields []string) (stamp.Civil, bool) {
	name := fields[0]
	if len(name) != nameSize {
		return stamp.Civil{}, false
	}
	switch name[speakerSize:] {
	case "ZDA":
		return civilOfZDA(fields)
	case "RMC":
		return civilOfRMC(fields)
	}
	return stamp.Civil{}, false
}

func civilOfZDA(fields []string) (stamp.Civil, bool) {
	if len(fields) < fieldsZDA {
		return stamp.Civil{}, false
	}
	c, isTime := timeOfDay(fields[1])
	day, isDay := number(fields[2], 2)
	month, isMonth := number(fields[3], 2)
	year, isYear := number(fields[4], 4)
	c.Day, c.Month, c.Year = day, month, year
	return c, isTime && isDay && isMonth && isYear
}

func civilOfRMC(fields []string) (stamp.Civil, bool) {
	if len(fields) < fieldsRMC || fields[2] != "A" {
		return stamp.Civil{}, false
	}
	c, isTime := timeOfDay(fields[1])
	date, isDate := number(fields[9], 6)
	c.Day, c.Month, c.Year = threePairs(date)
	if c.Year < firstYear {
		c.Year += 100
	}
	c.Year += 1900
	return c, isTime && isDate
}

// timeOfDay is what a TIME says, as a date's hour, minute, second and Frac, and whether the field is one.
func timeOfDay(field string) (stamp.Civil, bool) {
	whole, places, hasPoint := strings.Cut(field, ".")
	seconds, ok := number(whole, 6)
	if !ok {
		return stamp.Civil{}, false
	}
	c := stamp.Civil{}
	c.Hour, c.Min, c.Sec = threePairs(seconds)
	if hasPoint {
		c.Frac, ok = fraction(places)
	}
	return c, ok
}

// fraction is what the digits behind a point say in 2^-32 seconds, and whether they may stand there.
func fraction(places string) (uint32, bool) {
	if len(places) < 1 || len(places) > maxPlaces {
		return 0, false
	}
	n, ok := number(places, len(places))
	parts := uint64(1)
	for range len(places) {
		parts *= 10
	}
	return uint32(uint64(n) << fracBits / parts), ok
}

// number is what that many digits say, and whether s is just so many.
func number(s string, digits int) (int, bool) {
	if len(s) != digits {
		return 0, false
	}
	n := 0
	for i := range len(s) {
		if s[i] < '0' || s[i] > '9' {
			return 0, false
		}
		n = n*10 + int(s[i]-'0')
	}
	return n, true
}

// threePairs takes a number of six digits apart into three of two.
func threePairs(n int) (int, int, int) {
	return n / 10000, n / 100 % 100, n % 100
}

func Write(d stamp.Date) (string, api.Errno) {
	c, e := stamp.OfDate(d)
	if e != api.OK {
		return "", e
	}
	millionths := int(uint64(c.Frac) * million >> fracBits)
	text := []byte("GPZDA,")
	text = appendDigits(text, c.Hour*10000+c.Min*100+c.Sec, 6)
	text = append(text, '.')
	text = appendDigits(text, millionths, maxPlaces)
	text = append(text, ',')
	text = appendDigits(text, c.Day, 2)
	text = append(text, ',')
	text = appendDigits(text, c.Month, 2)
	text = append(text, ',')
	text = appendDigits(text, c.Year, 4)
	text = append(text, ",00,00"...)
	return withSum(string(text)), api.OK
}

// appendDigits adds the number with noughts ahead; it is not below 0, and has no more digits than that.
func appendDigits(text []byte, n, digits int) []byte {
	if digits == 0 {
		return text
	}
	return append(appendDigits(text, n/10, digits-1), byte('0'+n%10))
}
