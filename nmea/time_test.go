package nmea_test

import (
	"fmt"
	"math"
	"math/big"
	"math/rand/v2"
	"regexp"
	"strconv"
	"strings"
	"testing"
	"time"

	"foliot/api"
	"foliot/nmea"
	"foliot/stamp"
)

// dateOf is a calendar's date by the library's calendar, which goes on in the same way ahead of 1900; false, if there is none in the years 1 to 2100.
func dateOf(c stamp.Civil) (stamp.Date, bool) {
	u := time.Date(c.Year, time.Month(c.Month), c.Day, c.Hour, c.Min, c.Sec, 0, time.UTC)
	same := [6]int{u.Year(), int(u.Month()), u.Day(), u.Hour(), u.Minute(), u.Second()} == [6]int{c.Year, c.Month, c.Day, c.Hour, c.Min, c.Sec}
	if !same || c.Year < 1 || c.Year > 2100 {
		return stamp.Date{}, false
	}
	second := u.Unix() + 2208988800
	return stamp.Date{Era: int(second >> 32), At: api.Stamp(uint64(second)<<32 | uint64(c.Frac))}, true
}

func wantTime(t *testing.T, s string, want stamp.Civil) {
	t.Helper()
	d, ok := dateOf(want)
	if !ok {
		t.Fatalf("%v is no date", want)
	}
	if got, e := nmea.Time(s); got != d || e != api.OK {
		t.Errorf("Time(%q) is %v, %v, want %v", s, got, e, d)
	}
}

func wantNoTime(t *testing.T, s string, want api.Errno) {
	t.Helper()
	if got, e := nmea.Time(s); got != (stamp.Date{}) || e != want {
		t.Errorf("Time(%q) is %v, %v, want %v", s, got, e, want)
	}
}

func TestTime(t *testing.T) {
	evening := stamp.Civil{Year: 2026, Month: 11, Day: 15, Hour: 19}
	half := evening
	half.Frac = 1 << 31
	for _, x := range []struct {
		s    string
		want stamp.Civil
	}{
		// The chapter's examples.
		{"GPRMC,190000,A,,,,,,,151126,,", evening},
		{"GPZDA,190000.500000,15,11,2026,00,00", half},
		// Just as many fields as are asked for, more, and what stands in the others.
		{"GPZDA,190000,15,11,2026", evening},
		{"GPZDA,190000,15,11,2026,", evening},
		{"GPZDA,190000,15,11,2026,xx,,,,,,,,,,,,*,$", evening},
		{"GPRMC,190000,A,,,,,,,151126", evening},
		{"GPRMC,190000,A,a,b,c,d,e,f,151126,g,h,i,j,k,l,m,n", evening},
		{"GPRMC,190000.5,A,4807.038,N,01131.000,E,022.4,084.4,151126,003.1,W", half},
		// Whoever speaks.
		{"GNZDA,190000,15,11,2026", evening},
		{"  ZDA,190000,15,11,2026", evening},
		{"\x00\xffRMC,190000,A,,,,,,,151126", evening},
		{"ZDZDA,190000,15,11,2026", evening},
		{"RMZDA,190000,15,11,2026", evening},
		{"$PRMC,190000,A,,,,,,,151126", evening},
		// Each number in its place.
		{"GPZDA,010203.000004,05,06,0789", stamp.Civil{Year: 789, Month: 6, Day: 5, Hour: 1, Min: 2, Sec: 3, Frac: 17179}},
		{"GPRMC,010203.000004,A,,,,,,,050607", stamp.Civil{Year: 2007, Month: 6, Day: 5, Hour: 1, Min: 2, Sec: 3, Frac: 17179}},
		{"GPZDA,235959.999999,31,12,2100", stamp.Civil{Year: 2100, Month: 12, Day: 31, Hour: 23, Min: 59, Sec: 59, Frac: 4294963001}},
		{"GPZDA,000000,01,01,0001", stamp.Civil{Year: 1, Month: 1, Day: 1}},
		{"GPZDA,000000,01,01,1900", stamp.Civil{Year: 1900, Month: 1, Day: 1}},
		{"GPZDA,062816,07,02,2036", stamp.Civil{Year: 2036, Month: 2, Day: 7, Hour: 6, Min: 28, Sec: 16}},
		{"GPZDA,120000,29,02,2000", stamp.Civil{Year: 2000, Month: 2, Day: 29, Hour: 12}},
		{"GPRMC,120000,A,,,,,,,290224", stamp.Civil{Year: 2024, Month: 2, Day: 29, Hour: 12}},
		// Years of two digits.
		{"GPRMC,190000,A,,,,,,,151179", stamp.Civil{Year: 2079, Month: 11, Day: 15, Hour: 19}},
		{"GPRMC,190000,A,,,,,,,151180", stamp.Civil{Year: 1980, Month: 11, Day: 15, Hour: 19}},
		{"GPRMC,190000,A,,,,,,,151199", stamp.Civil{Year: 1999, Month: 11, Day: 15, Hour: 19}},
		{"GPRMC,190000,A,,,,,,,151100", stamp.Civil{Year: 2000, Month: 11, Day: 15, Hour: 19}},
		{"GPRMC,190000,A,,,,,,,151101", stamp.Civil{Year: 2001, Month: 11, Day: 15, Hour: 19}},
	} {
		wantTime(t, sealed(x.s), x.want)
	}
}

// P7.4: every year of two digits.
func TestTimeEachYear(t *testing.T) {
	for n := range 100 {
		year := 1900 + n
		if n <= 79 {
			year = 2000 + n
		}
		wantTime(t, sealed(fmt.Sprintf("GPRMC,000001,A,,,,,,,0203%02d", n)), stamp.Civil{Year: year, Month: 3, Day: 2, Sec: 1})
	}
}

// P7.4: digits behind the point, with their number times 2^32 divided down.
func TestTimePlaces(t *testing.T) {
	for _, x := range []struct {
		places string
		frac   uint32
	}{
		{"", 0},
		{".0", 0}, {".1", 429496729}, {".2", 858993459}, {".5", 1 << 31}, {".9", 3865470566},
		{".00", 0}, {".01", 42949672}, {".50", 1 << 31}, {".99", 4252017623},
		{".001", 4294967}, {".250", 1 << 30}, {".999", 4290672328},
		{".0001", 429496}, {".7500", 3 << 30}, {".9999", 4294537799},
		{".00001", 42949}, {".00003", 128849}, {".99999", 4294924346},
		{".000000", 0}, {".000001", 4294}, {".000002", 8589}, {".500000", 1 << 31}, {".999999", 4294963001},
	} {
		want := stamp.Civil{Year: 2026, Month: 11, Day: 15, Hour: 1, Min: 2, Sec: 3, Frac: x.frac}
		wantTime(t, sealed("GPZDA,010203"+x.places+",15,11,2026"), want)
		wantTime(t, sealed("GPRMC,010203"+x.places+",A,,,,,,,151126"), want)
	}
}

// P7.4: what is not of the form is ErrText, even where there would be no such date either.
func TestTimeNoText(t *testing.T) {
	for _, s := range []string{
		// First fields.
		"", ",", "ZDA", "PZDA,190000,15,11,2026", "GGPZDA,190000,15,11,2026", "ZDA,190000,15,11,2026",
		"PRMC,190000,A,,,,,,,151126", "GGPRMC,190000,A,,,,,,,151126", "RMC,190000,A,,,,,,,151126",
		",190000,15,11,2026", "GPzda,190000,15,11,2026", "GPrmc,190000,A,,,,,,,151126", "GPGGA,190000,15,11,2026", "GPGLL,190000,A,,,,,,,151126",
		"ZDAGP,190000,15,11,2026", "GZDAP,190000,15,11,2026", "GPZDB,190000,15,11,2026", "GPZDA ,190000,15,11,2026", " GPZDA,190000,15,11,2026", "ä?ZDA,190000,15,11,2026",
		"RMCGP,190000,A,,,,,,,151126", "GPRMCX,190000,A,,,,,,,151126",
		// Too few fields.
		"GPZDA", "GPZDA,190000", "GPZDA,190000,15", "GPZDA,190000,15,11", "GPZDA,190000,15112026",
		"GPRMC", "GPRMC,190000,A", "GPRMC,190000,A,,,,,,151126", "GPRMC,190000,A,151126", "GPRMC,190000,A,,,,,,",
		"GPRMC,190000,15,11,2026",
		// Empty ones.
		"GPZDA,,15,11,2026", "GPZDA,190000,,11,2026", "GPZDA,190000,15,,2026", "GPZDA,190000,15,11,", "GPZDA,,,,,",
		"GPRMC,,A,,,,,,,151126", "GPRMC,190000,,,,,,,,151126", "GPRMC,190000,A,,,,,,,", "GPRMC,,,,,,,,,,,",
		// Fields in other places.
		"GPZDA,15,190000,11,2026", "GPRMC,190000,A,,,,,,,,151126", "GPRMC,190000,A,,,,,,151126,,", "GPRMC,190000,,A,,,,,,151126",
		// Times.
		"GPZDA,19000,15,11,2026", "GPZDA,1900000,15,11,2026", "GPZDA,190000.,15,11,2026", "GPZDA,190000.1234567,15,11,2026", "GPZDA,190000.0000000,15,11,2026",
		"GPZDA,19000.0,15,11,2026", "GPZDA,1900000.0,15,11,2026", "GPZDA,.0,15,11,2026", "GPZDA,.,15,11,2026", "GPZDA,190000.1.2,15,11,2026", "GPZDA,190000..1,15,11,2026", "GPZDA,190000.1.,15,11,2026",
		"GPZDA,19:00:00,15,11,2026", "GPZDA,190000 ,15,11,2026", "GPZDA, 190000,15,11,2026", "GPZDA, 90000,15,11,2026", "GPZDA,+90000,15,11,2026", "GPZDA,-90000,15,11,2026",
		"GPZDA,19000a,15,11,2026", "GPZDA,a90000,15,11,2026", "GPZDA,190000.a,15,11,2026", "GPZDA,190000.12345a,15,11,2026", "GPZDA,190000.-1,15,11,2026", "GPZDA,190000.+1,15,11,2026", "GPZDA,190000. 1,15,11,2026", "GPZDA,190000:5,15,11,2026",
		"GPZDA,1900/0,15,11,2026", "GPZDA,1900:0,15,11,2026", "GPZDA,190000./,15,11,2026", "GPZDA,190000.:,15,11,2026",
		"GPRMC,190000.,A,,,,,,,151126", "GPRMC,190000.1234567,A,,,,,,,151126", "GPRMC,19000,A,,,,,,,151126",
		"GPZDA,190000.12345678901234567890,15,11,2026",
		// Days, months, years.
		"GPZDA,190000,5,11,2026", "GPZDA,190000,015,11,2026", "GPZDA,190000,15,1,2026", "GPZDA,190000,15,011,2026", "GPZDA,190000,15,11,26", "GPZDA,190000,15,11,02026", "GPZDA,190000,15,11,226",
		"GPZDA,190000,a5,11,2026", "GPZDA,190000,1a,11,2026", "GPZDA,190000,15,a1,2026", "GPZDA,190000,15,1a,2026", "GPZDA,190000,15,11,a026", "GPZDA,190000,15,11,202a",
		"GPZDA,190000, 5,11,2026", "GPZDA,190000,-5,11,2026", "GPZDA,190000,+5,11,2026", "GPZDA,190000,15,11,2026 ", "GPZDA,190000,15,11,-026", "GPZDA,190000,1/,11,2026", "GPZDA,190000,1:,11,2026",
		"GPRMC,190000,A,,,,,,,15112026", "GPRMC,190000,A,,,,,,,15112", "GPRMC,190000,A,,,,,,,1511266", "GPRMC,190000,A,,,,,,,15112a", "GPRMC,190000,A,,,,,,,a51126", "GPRMC,190000,A,,,,,,,15-126", "GPRMC,190000,A,,,,,,,15.126",
		// RMC that is not `A`.
		"GPRMC,190000,V,,,,,,,151126", "GPRMC,190000,a,,,,,,,151126", "GPRMC,190000,AA,,,,,,,151126", "GPRMC,190000,A ,,,,,,,151126", "GPRMC,190000, A,,,,,,,151126", "GPRMC,190000,B,,,,,,,151126",
		// What is no date either: the text comes first.
		"GPZDA,250000,32,13,20266", "GPZDA,250000.,15,11,2026", "GPZDA,250000,1,11,2026", "GPZDA,190000,32,1,2026", "GPRMC,250000,V,,,,,,,151126", "GPRMC,250000,A,,,,,,,15112", "GPRMC,19000,A,,,,,,,321126", "GPRMC,250000,A,,,,,,,",
	} {
		wantNoTime(t, sealed(s), api.ErrText)
	}
}

// P7.4: what is of the form, but no date.
func TestTimeNoDate(t *testing.T) {
	for _, s := range []string{
		"GPZDA,240000,15,11,2026", "GPZDA,990000,15,11,2026", "GPZDA,196000,15,11,2026", "GPZDA,199900,15,11,2026", "GPZDA,190060,15,11,2026", "GPZDA,190099.999999,15,11,2026", "GPZDA,235960,31,12,2016",
		"GPZDA,190000,00,11,2026", "GPZDA,190000,31,11,2026", "GPZDA,190000,32,12,2026", "GPZDA,190000,99,11,2026", "GPZDA,190000,15,00,2026", "GPZDA,190000,15,13,2026", "GPZDA,190000,15,99,2026",
		"GPZDA,190000,15,11,0000", "GPZDA,190000,15,11,2101", "GPZDA,000000,01,01,2101", "GPZDA,190000,15,11,9999",
		"GPZDA,190000,29,02,2026", "GPZDA,190000,30,02,2024", "GPZDA,190000,29,02,1900", "GPZDA,190000,29,02,2100",
		"GPRMC,240000,A,,,,,,,151126", "GPRMC,196000,A,,,,,,,151126", "GPRMC,190060,A,,,,,,,151126",
		"GPRMC,190000,A,,,,,,,001126", "GPRMC,190000,A,,,,,,,311126", "GPRMC,190000,A,,,,,,,150026", "GPRMC,190000,A,,,,,,,151326", "GPRMC,190000,A,,,,,,,290226", "GPRMC,190000,A,,,,,,,290281", "GPRMC,190000,A,,,,,,,000000", "GPRMC,190000,A,,,,,,,999999",
	} {
		wantNoTime(t, sealed(s), api.ErrDate)
	}
}

// P7.4: Check's errors come first, whatever the fields are.
func TestTimeOfWhatIsUnchecked(t *testing.T) {
	for _, s := range []string{"GPZDA,190000,15,11,2026", "GPGGA,1", "GPZDA,250000,15,11,2026", "GPZDA,1,15,11,2026", "A"} {
		wantNoTime(t, s, api.ErrText)
		wantNoTime(t, s+"*", api.ErrText)
		wantNoTime(t, s+"*0", api.ErrText)
		wantNoTime(t, s+fmt.Sprintf("*%02X", sumOf(s)^1), api.ErrMAC)
		wantNoTime(t, s+fmt.Sprintf("*%02X", sumOf(s)^0x80), api.ErrMAC)
		wantNoTime(t, sealed(s)+"\r", api.ErrText)
		wantNoTime(t, s+"*6g", api.ErrText)
	}
	wantNoTime(t, "", api.ErrText)
	wantNoTime(t, "*00", api.ErrText)
	wantNoTime(t, "GPZDA,190000.500000,15,11,2026,00,00*96", api.ErrMAC)
	// A sum of small letters is none, even if it is right.
	s := "GPZDA,190001,15,11,2026"
	for sumOf(s)&15 < 10 {
		s += ",1"
	}
	wantTime(t, sealed(s), stamp.Civil{Year: 2026, Month: 11, Day: 15, Hour: 19, Sec: 1})
	wantNoTime(t, s+fmt.Sprintf("*%02x", sumOf(s)), api.ErrText)
}

var (
	formZDA = regexp.MustCompile(`(?s)^[^,][^,]ZDA,([0-9]{2})([0-9]{2})([0-9]{2})(?:\.([0-9]{1,6}))?,([0-9]{2}),([0-9]{2}),([0-9]{4})(?:,.*)?$`)
	formRMC = regexp.MustCompile(`(?s)^[^,][^,]RMC,([0-9]{2})([0-9]{2})([0-9]{2})(?:\.([0-9]{1,6}))?,A(?:,[^,]*){6},([0-9]{2})([0-9]{2})([0-9]{2})(?:,.*)?$`)
)

// timeOf says P7.4 by regular expressions and the library's calendar.
func timeOf(s string) (stamp.Date, api.Errno) {
	if _, e := checked(s); e != api.OK {
		return stamp.Date{}, e
	}
	head := wide(s)
	head = head[:strings.LastIndexByte(head, '*')]
	m := formZDA.FindStringSubmatch(head)
	century := 0
	if m == nil {
		m = formRMC.FindStringSubmatch(head)
		if m == nil {
			return stamp.Date{}, api.ErrText
		}
		century = 1900
		if m[7] < "80" {
			century = 2000
		}
	}
	n := [8]int{}
	for i := 1; i < 8; i++ {
		n[i], _ = strconv.Atoi(m[i])
	}
	c := stamp.Civil{Hour: n[1], Min: n[2], Sec: n[3], Day: n[5], Month: n[6], Year: n[7] + century}
	part, _ := new(big.Int).SetString(m[4]+"0", 10)
	part.Lsh(part, 32).Div(part, new(big.Int).Exp(big.NewInt(10), big.NewInt(int64(len(m[4])+1)), nil))
	c.Frac = uint32(part.Uint64())
	d, ok := dateOf(c)
	if !ok {
		return stamp.Date{}, api.ErrDate
	}
	return d, api.OK
}

// drawnSentence is one that tells a time, or nearly does.
func drawnSentence(r *rand.Rand) string {
	pair := func(most int) string { return fmt.Sprintf("%02d", r.IntN(most)) }
	clock := pair(25) + pair(61) + pair(61)
	if r.IntN(2) == 0 {
		clock += "." + fmt.Sprintf("%07d", r.IntN(10000000))[:r.IntN(8)]
	}
	others := func(count int) string {
		s := ""
		for range count {
			s += "," + []string{"", "A", "x.y", "12"}[r.IntN(4)]
		}
		return s
	}
	if r.IntN(2) == 0 {
		return "GPZDA," + clock + "," + pair(33) + "," + pair(14) + fmt.Sprintf(",%04d", r.IntN(2200)) + others(r.IntN(4))
	}
	return "GPRMC," + clock + ",A" + others(6) + "," + pair(33) + pair(14) + pair(100) + others(r.IntN(4))
}

// P7.4: drawn sentences; of half of them a byte is another, missing or too much; some of these have no right sum.
func TestTimeDrawn(t *testing.T) {
	r := rand.New(rand.NewPCG(5, 7))
	seen := map[api.Errno]int{}
	for range 60000 {
		s := drawnSentence(r)
		switch r.IntN(8) {
		case 0, 1:
			s = sealed(damaged(r, s, "0123456789.,AZ"))
		case 2:
			s = damaged(r, sealed(s), "0123456789ABCDEF*")
		default:
			s = sealed(s)
		}
		want, e := timeOf(s)
		if got, f := nmea.Time(s); got != want || f != e {
			t.Fatalf("Time(%q) is %v, %v, want %v, %v", s, got, f, want, e)
		}
		seen[e]++
	}
	for _, e := range []api.Errno{api.OK, api.ErrText, api.ErrMAC, api.ErrDate} {
		if seen[e] < 1000 {
			t.Errorf("the answer %v came %v times", e, seen[e])
		}
	}
}

// The first and the last second of the years 1 and 2100, counted from 1900 on.
const (
	firstSecond = -(1899*365 + 460) * 86400
	lastSecond  = (201*365+49)*86400 - 1
)

func dateAt(second int, frac uint32) stamp.Date {
	return stamp.Date{Era: second >> 32, At: api.Stamp(uint64(second)<<32 | uint64(frac))}
}

// written says P7.5 by the library's calendar.
func written(second int, frac uint32) string {
	u := time.Unix(int64(second)-2208988800, 0).UTC()
	n := new(big.Int).Mul(big.NewInt(int64(frac)), big.NewInt(1000000))
	n.Rsh(n, 32)
	return sealed(fmt.Sprintf("GPZDA,%02d%02d%02d.%06d,%02d,%02d,%04d,00,00", u.Hour(), u.Minute(), u.Second(), n, u.Day(), int(u.Month()), u.Year()))
}

func wantWritten(t *testing.T, d stamp.Date, want string) {
	t.Helper()
	if s, e := nmea.Write(d); s != want || e != api.OK {
		t.Errorf("Write(%v) is %q, %v, want %q", d, s, e, want)
	}
}

func TestWrite(t *testing.T) {
	for _, x := range []struct {
		c    stamp.Civil
		want string
	}{
		{stamp.Civil{Year: 2026, Month: 11, Day: 15, Hour: 19, Frac: 1 << 31}, "GPZDA,190000.500000,15,11,2026,00,00*69"},
		{stamp.Civil{Year: 2026, Month: 11, Day: 15, Hour: 19}, "GPZDA,190000.000000,15,11,2026,00,00*6C"},
		{stamp.Civil{Year: 789, Month: 6, Day: 5, Hour: 1, Min: 2, Sec: 3, Frac: 17180}, sealed("GPZDA,010203.000004,05,06,0789,00,00")},
		{stamp.Civil{Year: 1, Month: 1, Day: 1}, sealed("GPZDA,000000.000000,01,01,0001,00,00")},
		{stamp.Civil{Year: 2100, Month: 12, Day: 31, Hour: 23, Min: 59, Sec: 59, Frac: math.MaxUint32}, sealed("GPZDA,235959.999999,31,12,2100,00,00")},
		{stamp.Civil{Year: 2000, Month: 2, Day: 29, Hour: 12, Frac: 4294}, sealed("GPZDA,120000.000000,29,02,2000,00,00")},
		{stamp.Civil{Year: 2000, Month: 2, Day: 29, Hour: 12, Frac: 4295}, sealed("GPZDA,120000.000001,29,02,2000,00,00")},
		{stamp.Civil{Year: 2000, Month: 2, Day: 29, Hour: 12, Frac: 4294963001}, sealed("GPZDA,120000.999998,29,02,2000,00,00")},
		{stamp.Civil{Year: 2000, Month: 2, Day: 29, Hour: 12, Frac: 4294963002}, sealed("GPZDA,120000.999999,29,02,2000,00,00")},
	} {
		d, ok := dateOf(x.c)
		if !ok {
			t.Fatalf("%v is no date", x.c)
		}
		wantWritten(t, d, x.want)
	}
	wantWritten(t, stamp.Date{}, sealed("GPZDA,000000.000000,01,01,1900,00,00"))
	wantWritten(t, stamp.Date{Era: 1}, sealed("GPZDA,062816.000000,07,02,2036,00,00"))
	wantWritten(t, dateAt(firstSecond, 0), sealed("GPZDA,000000.000000,01,01,0001,00,00"))
	wantWritten(t, dateAt(lastSecond, 0), sealed("GPZDA,235959.000000,31,12,2100,00,00"))
}

// P7.5: dates that the calendar does not have.
func TestWriteNoDate(t *testing.T) {
	for _, d := range []stamp.Date{
		dateAt(firstSecond-1, math.MaxUint32),
		dateAt(lastSecond+1, 0),
		{Era: -15, At: math.MaxUint64},
		{Era: -14},
		{Era: 2},
		{Era: math.MaxInt, At: math.MaxUint64},
		{Era: math.MinInt},
		{Era: 1 << 32},
	} {
		if s, e := nmea.Write(d); s != "" || e != api.ErrDate {
			t.Errorf("Write(%v) is %q, %v", d, s, e)
		}
	}
}

// wantThereAndBack holds P7.6: at most as far on as d, and less than 10^-6 seconds and 2^-32 behind it.
func wantThereAndBack(t *testing.T, d stamp.Date) {
	t.Helper()
	s, e := nmea.Write(d)
	back, f := nmea.Time(s)
	if e != api.OK || f != api.OK || back.Era != d.Era || back.At > d.At {
		t.Fatalf("Write(%v) is %q, %v, and Time of it %v, %v", d, s, e, back, f)
	}
	// In 2^-32 seconds, times 10^6.
	if behind := uint64(d.At-back.At) * 1000000; behind >= 1<<32+1000000 {
		t.Fatalf("Time(Write(%v)) is %v", d, back)
	}
}

// P7.5, P7.6: drawn dates through all years, and the ends of a second.
func TestWriteDrawn(t *testing.T) {
	r := rand.New(rand.NewPCG(6, 7))
	for range 30000 {
		second := firstSecond + r.IntN(lastSecond-firstSecond+1)
		for _, frac := range []uint32{r.Uint32(), 0, 1, math.MaxUint32, uint32(r.IntN(10000))} {
			d := dateAt(second, frac)
			wantWritten(t, d, written(second, frac))
			wantThereAndBack(t, d)
		}
	}
	for _, second := range []int{firstSecond, lastSecond, -1, 0, 1<<32 - 1, 1 << 32} {
		wantThereAndBack(t, dateAt(second, 0))
		wantThereAndBack(t, dateAt(second, math.MaxUint32))
	}
}

// P7.6: the first and the last part of each of many millionths is written as that one.
func TestWriteMillionths(t *testing.T) {
	for n := uint64(0); n < 1000000; n += 37 {
		first := (n<<32 + 999999) / 1000000
		last := ((n+1)<<32 - 1) / 1000000
		for _, frac := range []uint64{first, last} {
			if frac > math.MaxUint32 {
				frac = math.MaxUint32
			}
			s, _ := nmea.Write(dateAt(3600, uint32(frac)))
			if want := fmt.Sprintf(".%06d,", n); !strings.Contains(s, want) {
				t.Fatalf("%v of 2^32 is written as %q, want %q", frac, s, want)
			}
			wantThereAndBack(t, dateAt(3600, uint32(frac)))
		}
	}
}

// P7.6: what Write tells is told by a line, and tells the time there.
func TestWriteThroughLine(t *testing.T) {
	r := rand.New(rand.NewPCG(7, 7))
	l := nmea.New()
	for range 1000 {
		second := firstSecond + r.IntN(lastSecond-firstSecond+1)
		s, _ := nmea.Write(dateAt(second, 1<<31))
		told := l.Feed([]byte("noise$" + s + "\r\n"))
		if len(told) != 1 || told[0] != s {
			t.Fatalf("%q comes as %q", s, told)
		}
		if d, e := nmea.Time(told[0]); d != dateAt(second, 1<<31) || e != api.OK {
			t.Fatalf("Time(%q) is %v, %v", told[0], d, e)
		}
	}
	if l.Lost() != 0 {
		t.Errorf("%v are lost", l.Lost())
	}
}
