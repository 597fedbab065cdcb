package stamp

import "foliot/api"

const (
	lastYear  = 2100
	eraYear   = 1900 // the era 0 begins with it
	firstEra  = -14  // the year 1 begins in it
	lastEra   = 1    // lastYear ends in it
	eraPlaces = 32   // an era has 2^32 seconds, a second as many parts

	minuteSeconds = 60
	hourSeconds   = 60 * minuteSeconds
	daySeconds    = 24 * hourSeconds
)

func OfDate(d Date) (Civil, api.Errno) {
	// The era is looked at first, as the seconds of one far off do not fit into 64 bits.
	if d.Era < firstEra || d.Era > lastEra {
		return Civil{}, api.ErrDate
	}
	// Counted from the year 1 on, what may be is not below 0, and so / and % divide down.
	second := d.Era<<eraPlaces + int(d.At>>eraPlaces) + daysBefore(eraYear)*daySeconds
	if second < 0 || second >= daysBefore(lastYear+1)*daySeconds {
		return Civil{}, api.ErrDate
	}
	c := civilDay(second / daySeconds)
	c.Hour = second % daySeconds / hourSeconds
	c.Min = second % hourSeconds / minuteSeconds
	c.Sec = second % minuteSeconds
	c.Frac = uint32(d.At)
	return c, api.OK
}

func ToDate(c Civil) (Date, api.Errno) {
	if !isDay(c.Year, c.Month, c.Day) || !isTime(c.Hour, c.Min, c.Sec) {
		return Date{}, api.ErrDate
	}
	day := daysBefore(c.Year) - daysBefore(eraYear) + c.Day - 1
	for month := 1; month < c.Month; month++ {
		day += monthDays(c.Year, month)
	}
	second := day*daySeconds + c.Hour*hourSeconds + c.Min*minuteSeconds + c.Sec
	// A shift divides down, below 0 too; what is left of it are the lower bits.
	at := api.Stamp(uint32(second))<<eraPlaces | api.Stamp(c.Frac)
	return Date{Era: second >> eraPlaces, At: at}, api.OK
}

// civilDay is the day that lies that many days behind the first one of the year 1; they are not below 0.
func civilDay(days int) Civil {
	// As if every year were a long one: this is never too late, and at most a few years too early.
	year := days/366 + 1
	for daysBefore(year+1) <= days {
		year++
	}
	days -= daysBefore(year)
	month := 1
	for days >= monthDays(year, month) {
		days -= monthDays(year, month)
		month++
	}
	return Civil{Year: year, Month: month, Day: days + 1}
}

func isDay(year, month, day int) bool {
	return isWithin(year, 1, lastYear) && isWithin(month, 1, 12) && isWithin(day, 1, monthDays(year, month))
}

func isTime(hour, minute, second int) bool {
	return isWithin(hour, 0, 23) && isWithin(minute, 0, 59) && isWithin(second, 0, 59)
}

func isWithin(n, least, most int) bool {
	return least <= n && n <= most
}

// daysBefore is how many days lie between the first one of the year 1 and that of year, which is not below 1.
func daysBefore(year int) int {
	gone := year - 1
	return gone*365 + gone/4 - gone/100 + gone/400
}

// monthDays is how many days a month has, which is 1 to 12.
func monthDays(year, month int) int {
	days := [12]int{31, 28, 31, 30, 31, 30, 31, 31, 30, 31, 30, 31}
	if month == 2 && isLeap(year) {
		return 29
	}
	return days[month-1]
}

func isLeap(year int) bool {
	return year%4 == 0 && year%100 != 0 || year%400 == 0
}
