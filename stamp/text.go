package stamp

import "foliot/api"

const (
	// form is how a date is written: a nought stands for a digit, each other byte for itself.
	form   = "0000-00-00 00:00:00.000000"
	fields = 7 // numbers of form: year, month, day, hour, minute, second, millionths

	million = 1000000
)

func Print(d Date) (string, api.Errno) {
	c, e := OfDate(d)
	if e != api.OK {
		return "", e
	}
	millionths := uint64(c.Frac) * million >> eraPlaces
	return write([fields]int{c.Year, c.Month, c.Day, c.Hour, c.Min, c.Sec, int(millionths)}), api.OK
}

func Parse(s string) (Date, api.Errno) {
	n, e := read(s)
	if e != api.OK {
		return Date{}, e
	}
	// Rounded up: what is less would be written as fewer millionths.
	frac := (uint64(n[6])<<eraPlaces + million - 1) / million
	return ToDate(Civil{Year: n[0], Month: n[1], Day: n[2], Hour: n[3], Min: n[4], Sec: n[5], Frac: uint32(frac)})
}

// write puts the numbers into the form; none has more digits than its place there, or is below 0.
func write(numbers [fields]int) string {
	text := []byte(form)
	field := fields - 1
	// From the end, as a number's last digit is the one to be had first.
	for i := len(form) - 1; i >= 0; i-- {
		if form[i] != '0' {
			field--
			continue
		}
		text[i] += byte(numbers[field] % 10)
		numbers[field] /= 10
	}
	return string(text)
}

// read takes the numbers out of a text that has just the form, or answers ErrText.
func read(s string) ([fields]int, api.Errno) {
	var numbers [fields]int
	field := 0
	if len(s) != len(form) {
		goto wrong
	}
	for i := range len(form) {
		if form[i] != '0' {
			if s[i] != form[i] {
				goto wrong
			}
			field++
			continue
		}
		if s[i] < '0' || s[i] > '9' {
			goto wrong
		}
		numbers[field] = numbers[field]*10 + int(s[i]-'0')
	}
	return numbers, api.OK
wrong:
	return [fields]int{}, api.ErrText
}
