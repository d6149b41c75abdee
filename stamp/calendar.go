package stamp

import "estafette/api"

const (
	minuteSeconds = 60
	hourSeconds   = 60 * minuteSeconds
	daySeconds    = 24 * hourSeconds

	firstYear    = 2000
	firstWeekday = 6 // a Saturday
	lastYear     = 2136

	// Where it is earlier than at +0000, the first moments are still in this year.
	earliestYear = firstYear - 1
)

// In a leap year February has one more.
var monthDays = [12]int{31, 28, 31, 30, 31, 30, 31, 31, 30, 31, 30, 31}

func isMoment(second int) bool { return within(second, 0, api.MaxClock-1) }

func within(n, least, most int) bool { return least <= n && n <= most }

func isLeap(year int) bool { return year%4 == 0 && (year%100 != 0 || year%400 == 0) }

func daysOfYear(year int) int {
	if isLeap(year) {
		return 366
	}
	return 365
}

func daysOfMonth(year, month int) int {
	if month == 2 && isLeap(year) {
		return 29
	}
	return monthDays[month-1]
}

// dateAt returns the date so many days after the first one.
func dateAt(days int) api.Time {
	year, month := firstYear, 1
	for days >= daysOfYear(year) {
		days -= daysOfYear(year)
		year++
	}
	for days >= daysOfMonth(year, month) {
		days -= daysOfMonth(year, month)
		month++
	}
	return api.Time{Year: year, Month: month, Day: days + 1}
}

// daysTo returns how many days a date that exists is after the first one: below 0 for one of the earliest year.
func daysTo(t api.Time) int {
	days := t.Day - 1 - daysOfYear(earliestYear)
	for year := earliestYear; year < t.Year; year++ {
		days += daysOfYear(year)
	}
	for month := 1; month < t.Month; month++ {
		days += daysOfMonth(t.Year, month)
	}
	return days
}

// secondsTo returns how many seconds a date and time is after the first moment, and whether it exists in a year that has moments anywhere.
func secondsTo(t api.Time) (int, bool) {
	if !isDate(t) || !isTime(t) {
		return 0, false
	}
	return daysTo(t)*daySeconds + t.Hour*hourSeconds + t.Minute*minuteSeconds + t.Second, true
}

func isDate(t api.Time) bool {
	return within(t.Year, earliestYear, lastYear) && within(t.Month, 1, 12) && within(t.Day, 1, daysOfMonth(t.Year, t.Month))
}

func isTime(t api.Time) bool {
	return within(t.Hour, 0, 23) && within(t.Minute, 0, 59) && within(t.Second, 0, 59)
}
