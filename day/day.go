// Package day converts between days and dates: see shared/doc/02-day.md.
package day

import "archivum/api"

const (
	firstYear = 1600
	lastYear  = 4470
	// firstWeekday is the day of the week of day 0, a Saturday.
	firstWeekday = 5
	textSize     = 10
)

// lengths has the lengths of the months of a year that is no leap year.
var lengths = [12]int{31, 28, 31, 30, 31, 30, 31, 31, 30, 31, 30, 31}

// Of returns the day of a date.
func Of(year, month, day int) (int, api.Errno) {
	if day < 1 || day > Length(year, month) {
		return 0, api.ErrRange
	}
	d := yearStart(year) + day - 1
	for m := 1; m < month; m++ {
		d += Length(year, m)
	}
	if d > api.MaxDay {
		return 0, api.ErrRange
	}
	return d, api.OK
}

// Date returns the date of a day.
func Date(d int) (year, month, day int, e api.Errno) {
	if !isDay(d) {
		return 0, 0, 0, api.ErrRange
	}
	year = yearOf(d)
	month, day = 1, d-yearStart(year)+1
	for day > Length(year, month) {
		day -= Length(year, month)
		month++
	}
	return year, month, day, api.OK
}

// Weekday returns the day of the week.
func Weekday(d int) (int, api.Errno) {
	if !isDay(d) {
		return 0, api.ErrRange
	}
	return (d + firstWeekday) % 7, api.OK
}

// Length returns how many days a month has.
func Length(year, month int) int {
	if year < firstYear || year > lastYear || month < 1 || month > 12 {
		return 0
	}
	if month == 2 && isLeap(year) {
		return 29
	}
	return lengths[month-1]
}

// Years returns the day so many years later.
func Years(d, n int) (int, api.Errno) {
	if !isDay(d) || n < 0 || n > api.MaxYears {
		return 0, api.ErrRange
	}
	year, month, day, _ := Date(d)
	// Only 29 February can be too late for its month; behind lastYear, where
	// Length is 0, there is no date at all.
	return orMaxDay(year+n, month, min(day, Length(year+n, month))), api.OK
}

// YearEnd returns the last day of the year of a day.
func YearEnd(d int) (int, api.Errno) {
	if !isDay(d) {
		return 0, api.ErrRange
	}
	return orMaxDay(yearOf(d), 12, 31), api.OK
}

// Format returns the text of a day.
func Format(d int) (string, api.Errno) {
	year, month, day, e := Date(d)
	if e != api.OK {
		return "", e
	}
	return padded(year, 4) + "-" + padded(month, 2) + "-" + padded(day, 2), api.OK
}

// Parse returns the day with a text.
func Parse(text string) (int, api.Errno) {
	if len(text) != textSize {
		return 0, api.ErrSyntax
	}
	var parts [3]int
	part := 0
	for i := range textSize {
		c := text[i]
		switch {
		case i == 4 || i == 7:
			if c != '-' {
				return 0, api.ErrSyntax
			}
			part++
		case c < '0' || c > '9':
			return 0, api.ErrSyntax
		default:
			parts[part] = 10*parts[part] + int(c-'0')
		}
	}
	return Of(parts[0], parts[1], parts[2])
}

func isDay(d int) bool { return 0 <= d && d <= api.MaxDay }

func isLeap(year int) bool {
	return year%4 == 0 && year%100 != 0 || year%400 == 0
}

// yearStart returns the day of 1 January of a year from firstYear on.
func yearStart(year int) int {
	n := year - firstYear
	// Each term counts the years before this one, of which firstYear is the
	// first that is divisible.
	return 365*n + (n+3)/4 - (n+99)/100 + (n+399)/400
}

// yearOf returns the year of a day.
func yearOf(d int) int {
	// No year is longer than 366 days, so this year is never too late; over all
	// days it is too early by a few years only.
	year := firstYear + d/366
	for d >= yearStart(year+1) {
		year++
	}
	return year
}

// orMaxDay returns the day of a date that exists or is behind MaxDay.
func orMaxDay(year, month, day int) int {
	d, e := Of(year, month, day)
	if e != api.OK {
		return api.MaxDay
	}
	return d
}

// padded returns a number with so many digits.
func padded(n, width int) string {
	out := make([]byte, width)
	for i := range width {
		out[width-1-i] = byte('0' + n%10)
		n /= 10
	}
	return string(out)
}
