package stamp_test

import (
	"fmt"
	"math"
	"strings"
	"testing"

	"foliot/api"
	"foliot/stamp"
)

func checkPrint(t *testing.T, d stamp.Date, want string) {
	t.Helper()
	if s, e := stamp.Print(d); s != want || e != api.OK {
		t.Errorf("Print(%v) is %q, %d, not %q", d, s, e, want)
	}
}

func checkParse(t *testing.T, s string, want stamp.Date) {
	t.Helper()
	if d, e := stamp.Parse(s); d != want || e != api.OK {
		t.Errorf("Parse(%q) is %v, %d, not %v", s, d, e, want)
	}
}

func checkNoParse(t *testing.T, s string, want api.Errno) {
	t.Helper()
	if d, e := stamp.Parse(s); d != (stamp.Date{}) || e != want {
		t.Errorf("Parse(%q) is %v, %d, not %d", s, d, e, want)
	}
}

// P2.6: the chapter's examples, and the ends of what may be written.
func TestPrint(t *testing.T) {
	checkPrint(t, date(0, 3000000000, 1<<31), "1995-01-25 05:20:00.500000")
	checkPrint(t, date(-1, 0, 0), "1763-11-24 17:31:44.000000")
	checkPrint(t, date(0, 0, 0), "1900-01-01 00:00:00.000000")
	checkPrint(t, date(1, 0, 0), "2036-02-07 06:28:16.000000")
	checkPrint(t, date(-14, firstSecond, 0), "0001-01-01 00:00:00.000000")
	checkPrint(t, date(1, lastSecond, 1<<32-1), "2100-12-31 23:59:59.999999")
	checkPrint(t, later(date(-14, firstSecond, 0), 99*365*86400), "0099-12-08 00:00:00.000000")
	checkPrint(t, later(date(-14, firstSecond, 0), 364*86400+9*3600+8*60+7), "0001-12-31 09:08:07.000000")
}

// P2.6: millionths are rounded down.
func TestPrintRoundsDown(t *testing.T) {
	for frac, want := range map[uint32]string{
		0: "000000", 1: "000000", 4294: "000000", 4295: "000001", 8589: "000001", 8590: "000002",
		1<<31 - 1: "499999", 1 << 31: "500000", 1<<32 - 4294: "999999", 1<<32 - 4295: "999998", 1<<32 - 1: "999999",
		429496729: "099999", 429496730: "100000",
	} {
		checkPrint(t, date(0, 0, frac), "1900-01-01 00:00:00."+want)
	}
}

// P2.6: no text of a date outside the years.
func TestPrintOutside(t *testing.T) {
	for _, d := range []stamp.Date{
		date(-14, firstSecond-1, 1<<32-1), date(1, lastSecond+1, 0), date(2, 0, 0), date(-15, 0, 0), date(math.MaxInt, 0, 0), date(math.MinInt, 0, 0),
	} {
		if s, e := stamp.Print(d); s != "" || e != api.ErrDate {
			t.Errorf("Print(%v) is %q, %d", d, s, e)
		}
	}
}

// P2.6: dates through all eras are written as the calendar says.
func TestPrintOfCalendar(t *testing.T) {
	for _, d := range drawnDates(20000) {
		c, _ := stamp.OfDate(d)
		checkPrint(t, d, fmt.Sprintf("%04d-%02d-%02d %02d:%02d:%02d.%06d", c.Year, c.Month, c.Day, c.Hour, c.Min, c.Sec, uint64(c.Frac)*1000000>>32))
	}
}

// P2.7: the chapter's examples, and the ends of what may be read.
func TestParse(t *testing.T) {
	checkParse(t, "2000-02-29 00:00:00.000001", date(0, 3160771200, 4295))
	checkParse(t, "1900-01-01 00:00:00.000000", date(0, 0, 0))
	checkParse(t, "1899-12-31 23:59:59.999999", date(-1, 1<<32-1, 4294963002))
	checkParse(t, "1995-01-25 05:20:00.500000", date(0, 3000000000, 1<<31))
	checkParse(t, "0001-01-01 00:00:00.000000", date(-14, firstSecond, 0))
	checkParse(t, "2100-12-31 23:59:59.999999", date(1, lastSecond, 4294963002))
	checkParse(t, "2036-02-07 06:28:16.250000", date(1, 0, 1<<30))
}

// P2.7: texts of the form, of dates that are none.
func TestParseNoDate(t *testing.T) {
	for _, s := range []string{
		"1900-02-29 00:00:00.000000", "2100-02-29 00:00:00.000000", "2001-02-29 00:00:00.000000", "2000-02-30 00:00:00.000000",
		"0000-01-01 00:00:00.000000", "0000-00-00 00:00:00.000000", "2101-01-01 00:00:00.000000", "9999-12-31 23:59:59.999999",
		"2000-00-01 00:00:00.000000", "2000-13-01 00:00:00.000000", "2000-99-01 00:00:00.000000",
		"2000-01-00 00:00:00.000000", "2000-01-32 00:00:00.000000", "2000-04-31 00:00:00.000000",
		"2000-01-01 24:00:00.000000", "2000-01-01 00:60:00.000000", "2000-01-01 00:00:60.000000", "2000-01-01 99:99:99.999999",
	} {
		checkNoParse(t, s, api.ErrDate)
	}
}

// P2.7: texts that have not just the form; that is told ahead of a date that is none.
func TestParseNoText(t *testing.T) {
	for _, s := range []string{
		"", "0", "2000", "2000-1-01 00:00:00.000000", "2000-02-29", "2000-02-29 00:00:00", "2000-02-29 00:00:00.", "2000-02-29 00:00:00.00000", "2000-02-29 00:00:00.0000011",
		"2000-02-29T00:00:00.000001", "2000-02-29 00:00:00,000001", "2000/02/29 00:00:00.000001", "2000-02-29 00.00.00.000001", "2000-02-29 00:00:00:000001",
		" 2000-02-29 00:00:00.000001", "2000-02-29 00:00:00.000001 ", "2000-02-29 00:00:00.000001\n", "2000-02-29 00:00:00.000001\x00", "2000-02-29  0:00:00.000001",
		"+200-02-29 00:00:00.000001", "-200-02-29 00:00:00.000001", "2000--2-29 00:00:00.000001", "2000-+2-29 00:00:00.000001", "2000-02-29 00:00:00.+00001", "2000-02-29 00:00:00.1e0005", "2_00-02-29 00:00:00.000001", "0x00-02-29 00:00:00.000001",
		"200-02-29 00:00:00.000001", "02000-02-29 00:00:00.000001", "2000-002-29 00:00:00.000001", "20000-2-29 00:00:00.000001", "200-002-29 00:00:00.000001",
		"2000-02-29 00:00:0\u0660.000001", "2000-02-29 00:00:0\u0660.00001", "\uff12000-02-29 00:00:00.000001", "\uff120-02-29 00:00:00.000001", "2000\u201302-29 00:00:00.000001",
		"9999-99-99 99:99:99.99999", "9999-99-99 99:99:99.999999x", "0000-00-00T00:00:00.000000",
		strings.Repeat("0", 26), strings.Repeat(" ", 26), strings.Repeat("\x00", 26), strings.Repeat("2000-02-29 00:00:00.000001", 2), strings.Repeat("9", 100000),
	} {
		checkNoParse(t, s, api.ErrText)
	}
}

// P2.7: each byte at each place, put in, taken out, and in the place of another.
func TestParseEachByte(t *testing.T) {
	const good = "1996-02-29 12:34:56.789012"
	checkParse(t, good, date(0, 3034586096, 3388780737))
	for i := range len(good) {
		checkNoParse(t, good[:i], api.ErrText)
		checkNoParse(t, good[:i]+good[i+1:], api.ErrText)
		for b := range 256 {
			put := string([]byte{byte(b)})
			checkNoParse(t, good[:i]+put+good[i:], api.ErrText)
			digit := b >= '0' && b <= '9' && good[i] >= '0' && good[i] <= '9'
			if !digit && byte(b) != good[i] {
				checkNoParse(t, good[:i]+put+good[i+1:], api.ErrText)
			}
		}
	}
}

// P2.7, P2.8: of all millionths, Print of Parse's date is the text, and of one 2^-32 of a second less it is another one.
func TestParseIsLeast(t *testing.T) {
	for n := range 1000000 {
		text := fmt.Sprintf("2000-02-29 12:34:56.%06d", n)
		d, e := stamp.Parse(text)
		if e != api.OK {
			t.Fatalf("Parse(%q) is %d", text, e)
		}
		if s, _ := stamp.Print(d); s != text {
			t.Fatalf("Print(Parse(%q)) is %q", text, s)
		}
		if s, _ := stamp.Print(stamp.Date{Era: d.Era, At: d.At - 1}); s == text {
			t.Fatalf("Parse(%q) is %v: a lesser one would do", text, d)
		}
	}
}

// P2.8: Print of Parse's date is the text, through all eras; and that date lies less than a millionth ahead of the one that was written.
func TestTextsThereAndBack(t *testing.T) {
	for _, d := range drawnDates(50000) {
		text, e := stamp.Print(d)
		if e != api.OK {
			t.Fatalf("Print(%v) is %d", d, e)
		}
		read, e := stamp.Parse(text)
		if e != api.OK || read.Era != d.Era || read.At > d.At || d.At-read.At > 4295 {
			t.Fatalf("Parse(Print(%v)) is %v, %d", d, read, e)
		}
		checkPrint(t, read, text)
	}
}
