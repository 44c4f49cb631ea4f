package moment

import "dragnet/api"

const (
	firstYear = 1970
	lastYear  = 9999
)

const longestYear = 366

func within(n, least, most int) bool { return n >= least && n <= most }

func isDay(d api.Date) bool {
	return within(d.Year, firstYear, lastYear) && within(d.Month, 1, 12) && within(d.Day, 1, monthDays(d.Year, d.Month))
}

func isTime(d api.Date) bool {
	return within(d.Hour, 0, 23) && within(d.Minute, 0, 59) && within(d.Second, 0, 59) && within(d.Milli, 0, 999)
}

func isLeap(year int) bool { return year%4 == 0 && (year%100 != 0 || year%400 == 0) }

// monthDays is how many days a month has. February is a short month that lacks more than the others do.
func monthDays(year, month int) int {
	days := 31
	switch month {
	case 2:
		days--
		if !isLeap(year) {
			days--
		}
		fallthrough
	case 4, 6, 9, 11:
		days--
	}
	return days
}

// daysThrough is how many days the years from 1 to the last one have.
func daysThrough(last int) int { return last*365 + last/4 - last/100 + last/400 }

// yearStart is how many days went by since the beginning of 1970 when a year begins.
func yearStart(year int) int { return daysThrough(year-1) - daysThrough(firstYear-1) }

// dayNumber is how many days went by since then when a day begins.
func dayNumber(d api.Date) int {
	days := yearStart(d.Year) + d.Day - 1
	for month := 1; month < d.Month; month++ {
		days += monthDays(d.Year, month)
	}
	return days
}

// dayOf is the day of such a number.
func dayOf(number int) api.Date {
	year := firstYear + number/longestYear // never too late, as no year is longer; too early by few at most
	for yearStart(year+1) <= number {
		year++
	}
	d := api.Date{Year: year, Month: 1, Day: number - yearStart(year) + 1}
	for {
		days := monthDays(d.Year, d.Month)
		if d.Day <= days {
			return d
		}
		d.Day -= days
		d.Month++
	}
}
