package stamp_test

import (
	"math"
	"math/rand/v2"
	"testing"
	"time"

	"foliot/api"
	"foliot/stamp"
)

func date(era int, second uint64, frac uint32) stamp.Date {
	return stamp.Date{Era: era, At: api.Stamp(second<<32 | uint64(frac))}
}

// both are a date and what the calendar says of it.
type both struct {
	date  stamp.Date
	civil stamp.Civil
}

func checkBoth(t *testing.T, x both) {
	t.Helper()
	if c, e := stamp.OfDate(x.date); c != x.civil || e != api.OK {
		t.Errorf("OfDate(%v) is %v, %d, not %v", x.date, c, e, x.civil)
	}
	if d, e := stamp.ToDate(x.civil); d != x.date || e != api.OK {
		t.Errorf("ToDate(%v) is %v, %d, not %v", x.civil, d, e, x.date)
	}
}

func checkNoCivil(t *testing.T, d stamp.Date) {
	t.Helper()
	if c, e := stamp.OfDate(d); c != (stamp.Civil{}) || e != api.ErrDate {
		t.Errorf("OfDate(%v) is %v, %d", d, c, e)
	}
}

func checkNoDate(t *testing.T, c stamp.Civil) {
	t.Helper()
	if d, e := stamp.ToDate(c); d != (stamp.Date{}) || e != api.ErrDate {
		t.Errorf("ToDate(%v) is %v, %d", c, d, e)
	}
}

// P2.4, P2.5: the chapter's examples, and the days on which eras begin.
func TestDatesOfExamples(t *testing.T) {
	for _, x := range []both{
		{date(0, 0, 0), stamp.Civil{Year: 1900, Month: 1, Day: 1}},
		{date(0, 0, 1), stamp.Civil{Year: 1900, Month: 1, Day: 1, Frac: 1}},
		{date(1, 0, 0), stamp.Civil{Year: 2036, Month: 2, Day: 7, Hour: 6, Min: 28, Sec: 16}},
		{date(0, 1<<32-1, 1<<32-1), stamp.Civil{Year: 2036, Month: 2, Day: 7, Hour: 6, Min: 28, Sec: 15, Frac: 1<<32 - 1}},
		{date(-1, 0, 0), stamp.Civil{Year: 1763, Month: 11, Day: 24, Hour: 17, Min: 31, Sec: 44}},
		{date(-1, 1<<32-1, 1<<32-1), stamp.Civil{Year: 1899, Month: 12, Day: 31, Hour: 23, Min: 59, Sec: 59, Frac: 1<<32 - 1}},
		{date(0, 3000000000, 1<<31), stamp.Civil{Year: 1995, Month: 1, Day: 25, Hour: 5, Min: 20, Frac: 1 << 31}},
		{date(0, 3160771200, 4295), stamp.Civil{Year: 2000, Month: 2, Day: 29, Frac: 4295}},
		{date(0, 2208988800, 0), stamp.Civil{Year: 1970, Month: 1, Day: 1}},
		{date(0, 86399, 5), stamp.Civil{Year: 1900, Month: 1, Day: 1, Hour: 23, Min: 59, Sec: 59, Frac: 5}},
		{date(0, 86400, 5), stamp.Civil{Year: 1900, Month: 1, Day: 2, Frac: 5}},
	} {
		checkBoth(t, x)
	}
	checkNoCivil(t, date(2, 0, 0))
}

// The first and the last second of what may be: the years 1 to 2100, in the eras -14 and 1. Worked out by the days of years alone: 1899 years with 460 leap days lie ahead of 1900, 2100 with 509 ahead of 2101.
const (
	firstSecond = 14<<32 - (1899*365+460)*86400
	lastSecond  = (201*365+49)*86400 - 1<<32 - 1
)

// P2.4, P2.5: the first and the last moment of the years 1 and 2100.
func TestDatesAtEnds(t *testing.T) {
	for _, x := range []both{
		{date(-14, firstSecond, 0), stamp.Civil{Year: 1, Month: 1, Day: 1}},
		{date(-14, firstSecond, 1), stamp.Civil{Year: 1, Month: 1, Day: 1, Frac: 1}},
		{date(-14, firstSecond+365*86400-1, 1<<32-1), stamp.Civil{Year: 1, Month: 12, Day: 31, Hour: 23, Min: 59, Sec: 59, Frac: 1<<32 - 1}},
		{date(-14, firstSecond+365*86400, 0), stamp.Civil{Year: 2, Month: 1, Day: 1}},
		{date(1, lastSecond-365*86400, 1<<32-1), stamp.Civil{Year: 2099, Month: 12, Day: 31, Hour: 23, Min: 59, Sec: 59, Frac: 1<<32 - 1}},
		{date(1, lastSecond-365*86400+1, 0), stamp.Civil{Year: 2100, Month: 1, Day: 1}},
		{date(1, lastSecond, 0), stamp.Civil{Year: 2100, Month: 12, Day: 31, Hour: 23, Min: 59, Sec: 59}},
		{date(1, lastSecond, 1<<32-1), stamp.Civil{Year: 2100, Month: 12, Day: 31, Hour: 23, Min: 59, Sec: 59, Frac: 1<<32 - 1}},
	} {
		checkBoth(t, x)
	}
}

// P2.4: dates outside the years, from the next moment on to the eras' ends.
func TestDatesOutside(t *testing.T) {
	for _, d := range []stamp.Date{
		date(-14, firstSecond-1, 1<<32-1),
		date(-14, 0, 0),
		date(-15, 1<<32-1, 1<<32-1),
		date(-15, 0, 0),
		date(-16, firstSecond, 0),
		date(1, lastSecond+1, 0),
		date(1, 1<<32-1, 1<<32-1),
		date(2, 0, 0),
		date(2, lastSecond, 0),
		date(5, 0, 0),
		date(1<<31, 0, 0),
		date(1<<32, 0, 0),
		date(-1<<32, 0, 0),
		date(1<<32+1, 0, 0),
		date(1<<62, 0, 0),
		date(math.MaxInt, 1<<32-1, 0),
		date(math.MinInt, 0, 0),
		date(math.MinInt, 1<<32-1, 1<<32-1),
	} {
		checkNoCivil(t, d)
	}
}

// The calendar as the tests know it, month by month, of a year that is not a leap year and of one that is.
var monthsOf = [2][12]int{
	{31, 28, 31, 30, 31, 30, 31, 31, 30, 31, 30, 31},
	{31, 29, 31, 30, 31, 30, 31, 31, 30, 31, 30, 31},
}

func isLeap(year int) bool {
	if year%400 == 0 {
		return true
	}
	return year%4 == 0 && year%100 != 0
}

func months(year int) [12]int {
	if isLeap(year) {
		return monthsOf[1]
	}
	return monthsOf[0]
}

// P2.4, P2.5: every day of the years, one behind the other, and each month's day behind the last one, which is none.
func TestEveryDay(t *testing.T) {
	at := stamp.Date{Era: -14, At: firstSecond << 32}
	for year := 1; year <= 2100; year++ {
		for i, days := range months(year) {
			for day := 1; day <= days; day++ {
				checkBoth(t, both{at, stamp.Civil{Year: year, Month: i + 1, Day: day}})
				at = later(at, 86400)
			}
			checkNoDate(t, stamp.Civil{Year: year, Month: i + 1})
			checkNoDate(t, stamp.Civil{Year: year, Month: i + 1, Day: days + 1})
		}
		if t.Failed() {
			t.Fatalf("in the year %d", year)
		}
	}
	checkNoCivil(t, at)
}

func later(d stamp.Date, seconds uint64) stamp.Date {
	at := d.At + api.Stamp(seconds)<<32
	if at < d.At {
		d.Era++
	}
	return stamp.Date{Era: d.Era, At: at}
}

// P2.4, P2.5: every second of days in which eras begin, and of the first and the last day.
func TestEverySecond(t *testing.T) {
	for _, day := range []both{
		{date(-14, firstSecond, 0), stamp.Civil{Year: 1, Month: 1, Day: 1}},
		{date(-2, 1<<32-17*3600-31*60-44, 0), stamp.Civil{Year: 1763, Month: 11, Day: 24}},
		{date(0, 0, 0), stamp.Civil{Year: 1900, Month: 1, Day: 1}},
		{date(0, 1<<32-6*3600-28*60-16, 0), stamp.Civil{Year: 2036, Month: 2, Day: 7}},
		{date(1, lastSecond-86399, 0), stamp.Civil{Year: 2100, Month: 12, Day: 31}},
	} {
		for second := range 86400 {
			x := both{later(day.date, uint64(second)), day.civil}
			x.civil.Hour, x.civil.Min, x.civil.Sec = second/3600, second/60%60, second%60
			x.civil.Frac = uint32(second) * 49999
			x.date.At |= api.Stamp(x.civil.Frac)
			checkBoth(t, x)
		}
	}
}

// P2.5: leap years by 4, 100 and 400.
func TestLeapYears(t *testing.T) {
	for year, leap := range map[int]bool{4: true, 100: false, 200: false, 300: false, 400: true, 1600: true, 1700: false, 1800: false, 1896: true, 1900: false, 1904: true, 1999: false, 2000: true, 2001: false, 2002: false, 2004: true, 2096: true, 2100: false} {
		c := stamp.Civil{Year: year, Month: 2, Day: 29, Hour: 12}
		if !leap {
			checkNoDate(t, c)
			continue
		}
		if _, e := stamp.ToDate(c); e != api.OK {
			t.Errorf("ToDate(%v) is %d", c, e)
		}
	}
}

// P2.5: each number that may not be, alone, in a date that else may.
func TestNoSuchCivil(t *testing.T) {
	good := stamp.Civil{Year: 2000, Month: 2, Day: 29, Hour: 23, Min: 59, Sec: 59, Frac: 1<<32 - 1}
	if _, e := stamp.ToDate(good); e != api.OK {
		t.Fatalf("ToDate(%v) is %d", good, e)
	}
	far := []int{-1, math.MinInt, math.MinInt + 1, math.MaxInt, math.MaxInt - 1, 1 << 32, 1<<32 + 1, -1 << 32}
	for _, x := range []struct {
		wrong []int
		put   func(c *stamp.Civil, n int)
	}{
		{[]int{0, -2000, 2101, 2104, 2400, 9999}, func(c *stamp.Civil, n int) { c.Year = n }},
		{[]int{0, 13, 14, 100}, func(c *stamp.Civil, n int) { c.Month = n }},
		{[]int{0, 30, 31, 32}, func(c *stamp.Civil, n int) { c.Day = n }},
		{[]int{24, 25, 60}, func(c *stamp.Civil, n int) { c.Hour = n }},
		{[]int{60, 61, 99}, func(c *stamp.Civil, n int) { c.Min = n }},
		{[]int{60, 61, 99}, func(c *stamp.Civil, n int) { c.Sec = n }},
	} {
		for _, n := range append(x.wrong, far...) {
			c := good
			x.put(&c, n)
			checkNoDate(t, c)
		}
	}
	checkNoDate(t, stamp.Civil{})
}

// drawnDates are dates from the year 1 to 2100, the same ones each time.
func drawnDates(count int) []stamp.Date {
	r := rand.New(rand.NewPCG(5, 6))
	l := make([]stamp.Date, count)
	for i := range l {
		second := firstSecond + r.Uint64N((2100*365+509)*86400)
		l[i] = date(int(second>>32)-14, second&(1<<32-1), r.Uint32())
	}
	return l
}

// P2.4, P2.5: dates through all eras are what the library's calendar, which goes on in the same way, says of them.
func TestDatesOfLibrary(t *testing.T) {
	seen := map[int]int{}
	for _, d := range drawnDates(100000) {
		seen[d.Era]++
		u := time.Unix(int64(d.Era)<<32+int64(d.At>>32)-2208988800, 0).UTC()
		checkBoth(t, both{d, stamp.Civil{Year: u.Year(), Month: int(u.Month()), Day: u.Day(), Hour: u.Hour(), Min: u.Minute(), Sec: u.Second(), Frac: uint32(d.At)}})
	}
	for era := -14; era <= 1; era++ {
		if seen[era] == 0 {
			t.Errorf("no date of the era %d was drawn", era)
		}
	}
}

// P2.8: ToDate of what OfDate tells is the date, and OfDate of what ToDate tells is the calendar's.
func TestDatesThereAndBack(t *testing.T) {
	for _, d := range drawnDates(100000) {
		c, e := stamp.OfDate(d)
		if back, f := stamp.ToDate(c); e != api.OK || f != api.OK || back != d {
			t.Fatalf("ToDate(OfDate(%v)) is %v, %d, %d", d, back, e, f)
		}
	}
	r := rand.New(rand.NewPCG(7, 8))
	for range 100000 {
		c := stamp.Civil{Year: 1 + r.IntN(2100), Month: 1 + r.IntN(12), Day: 1 + r.IntN(31), Hour: r.IntN(24), Min: r.IntN(60), Sec: r.IntN(60), Frac: r.Uint32()}
		d, e := stamp.ToDate(c)
		if c.Day > months(c.Year)[c.Month-1] {
			checkNoDate(t, c)
			continue
		}
		if back, f := stamp.OfDate(d); e != api.OK || f != api.OK || back != c {
			t.Fatalf("OfDate(ToDate(%v)) is %v, %d, %d", c, back, e, f)
		}
	}
}
