package day

import (
	"fmt"
	"math"
	"testing"
	"time"

	"archivum/api"
)

// outside are numbers that are no days.
var outside = []int{-1, -146097, api.MaxDay + 1, api.Forever + 1, math.MinInt, math.MaxInt}

func at(t *testing.T, text string) int {
	t.Helper()
	d, e := Parse(text)
	if e != api.OK {
		t.Fatal(text, e)
	}
	return d
}

// P2.1, P2.2, P2.4 and P2.5: every day follows from the one before, and its
// date, its day of the week and its text are those of another calendar.
func TestEveryDay(t *testing.T) {
	when := time.Date(1600, 1, 1, 0, 0, 0, 0, time.UTC)
	for d := range api.MaxDay + 1 {
		year, month, day, e := Date(d)
		if e != api.OK || year != when.Year() || month != int(when.Month()) || day != when.Day() {
			t.Fatal("Date", d, year, month, day, e)
		}
		if w, e := Weekday(d); e != api.OK || w != (int(when.Weekday())+6)%7 {
			t.Fatal("Weekday", d, w, e)
		}
		if got, e := Of(year, month, day); e != api.OK || got != d {
			t.Fatal("Of", d, got, e)
		}
		text, e := Format(d)
		if e != api.OK || text != when.Format("2006-01-02") {
			t.Fatal("Format", d, text, e)
		}
		if got, e := Parse(text); e != api.OK || got != d {
			t.Fatal("Parse", d, got, e)
		}
		when = when.AddDate(0, 0, 1)
		// Dates follow one another without a gap: a month ends with its length.
		if last := when.Day() == 1; last != (day == Length(year, month)) {
			t.Fatal("Length", d, year, month, Length(year, month))
		}
	}
}

func TestKnownDays(t *testing.T) {
	for i, x := range []struct {
		day, week int
		text      string
	}{
		{0, 5, "1600-01-01"},
		{59, 1, "1600-02-29"},
		{60, 2, "1600-03-01"},
		{365, 6, "1600-12-31"},
		{366, 0, "1601-01-01"},
		{36525 + 58, 6, "1700-02-28"},
		{36525 + 59, 0, "1700-03-01"},
		{146097 + 59, 1, "2000-02-29"},
		{api.MaxDay, 1, "4470-11-25"},
	} {
		text, e := Format(x.day)
		if e != api.OK || text != x.text {
			t.Error(i, text, e)
		}
		if w, e := Weekday(x.day); e != api.OK || w != x.week {
			t.Error(i, w, e)
		}
		if d, e := Parse(x.text); e != api.OK || d != x.day {
			t.Error(i, d, e)
		}
	}
}

// P2.1: what is no date, or is outside of the calendar.
func TestOfErrors(t *testing.T) {
	for i, x := range [][3]int{
		{1599, 12, 31}, {0, 1, 1}, {-1600, 1, 1},
		{4470, 11, 26}, {4470, 12, 1}, {4470, 12, 31}, {4471, 1, 1}, {9999, 1, 1},
		{2000, 0, 1}, {2000, 13, 1}, {2000, -1, 1}, {2000, 1, 0}, {2000, 1, -1}, {2000, 1, 32},
		{2000, 4, 31}, {2000, 2, 30}, {2001, 2, 29}, {1700, 2, 29}, {1900, 2, 29}, {4470, 2, 29}, {4400, 2, 30},
		{math.MaxInt, 1, 1}, {math.MinInt, 1, 1}, {2000, math.MaxInt, 1}, {2000, math.MinInt, 1},
		{2000, 1, math.MaxInt}, {2000, 1, math.MinInt},
	} {
		if d, e := Of(x[0], x[1], x[2]); d != 0 || e != api.ErrRange {
			t.Error(i, x, d, e)
		}
	}
	for i, x := range [][3]int{{1600, 1, 1}, {1600, 2, 29}, {2000, 2, 29}, {4400, 2, 29}, {4470, 11, 25}} {
		if _, e := Of(x[0], x[1], x[2]); e != api.OK {
			t.Error(i, x, e)
		}
	}
}

func TestNoDays(t *testing.T) {
	for _, d := range outside {
		if y, m, x, e := Date(d); y != 0 || m != 0 || x != 0 || e != api.ErrRange {
			t.Error("Date", d, y, m, x, e)
		}
		if w, e := Weekday(d); w != 0 || e != api.ErrRange {
			t.Error("Weekday", d, w, e)
		}
		if x, e := YearEnd(d); x != 0 || e != api.ErrRange {
			t.Error("YearEnd", d, x, e)
		}
		if x, e := Years(d, 0); x != 0 || e != api.ErrRange {
			t.Error("Years", d, x, e)
		}
		if s, e := Format(d); s != "" || e != api.ErrRange {
			t.Error("Format", d, s, e)
		}
	}
}

// P2.2: lengths of months, and 0 for what is none.
func TestLength(t *testing.T) {
	want := [12]int{31, 28, 31, 30, 31, 30, 31, 31, 30, 31, 30, 31}
	for year := 1590; year <= 4480; year++ {
		leap := time.Date(year, 12, 31, 0, 0, 0, 0, time.UTC).YearDay() == 366
		for month := -2; month <= 15; month++ {
			n := 0
			if 1600 <= year && year <= 4470 && 1 <= month && month <= 12 {
				n = want[month-1]
				if leap && month == 2 {
					n = 29
				}
			}
			if got := Length(year, month); got != n {
				t.Error(year, month, got)
			}
		}
	}
	for _, x := range []int{math.MinInt, math.MaxInt} {
		if Length(x, 1) != 0 || Length(2000, x) != 0 {
			t.Error(x)
		}
	}
}

// P2.3: so many years later.
func TestYears(t *testing.T) {
	for i, x := range []struct {
		from string
		n    int
		want string
	}{
		{"1600-01-01", 0, "1600-01-01"},
		{"1600-02-29", 0, "1600-02-29"},
		{"1600-02-29", 1, "1601-02-28"},
		{"1600-02-29", 4, "1604-02-29"},
		{"1600-02-29", 100, "1700-02-28"},
		{"1800-02-28", 200, "2000-02-28"},
		{"1904-02-29", 96, "2000-02-29"},
		{"1991-05-06", 10, "2001-05-06"},
		{"1999-12-31", 200, "2199-12-31"},
		{"4470-11-25", 0, "4470-11-25"},
		{"4469-11-25", 1, "4470-11-25"},
		{"4469-11-24", 1, "4470-11-24"},
		{"4469-11-26", 1, "4470-11-25"},
		{"4469-12-31", 1, "4470-11-25"},
		{"4470-01-01", 1, "4470-11-25"},
		{"4468-02-29", 2, "4470-02-28"},
		{"4468-02-29", 4, "4470-11-25"},
		{"4470-11-25", 200, "4470-11-25"},
	} {
		if d, e := Years(at(t, x.from), x.n); e != api.OK || d != at(t, x.want) {
			t.Error(i, d, e)
		}
	}
	for i, x := range [][2]int{{0, -1}, {0, 201}, {api.MaxDay, 201}, {0, math.MaxInt}, {0, math.MinInt}, {-1, -1}} {
		if d, e := Years(x[0], x[1]); d != 0 || e != api.ErrRange {
			t.Error(i, d, e)
		}
	}
}

// P2.5: Years keeps the order of days, and more years give a later day.
func TestYearsOrder(t *testing.T) {
	for n := 0; n <= api.MaxYears; n += 9 {
		before := -1
		for d := 0; d <= api.MaxDay; d += 7 {
			got, e := Years(d, n)
			if e != api.OK || got < before {
				t.Fatal(d, n, got, e)
			}
			before = got
		}
	}
	for _, d := range []int{0, 59, 60, 36525, 146097 + 59, api.MaxDay - 40000, api.MaxDay - 366, api.MaxDay} {
		before := d
		for n := 1; n <= api.MaxYears; n++ {
			got, e := Years(d, n)
			if e != api.OK || got <= before && got != api.MaxDay {
				t.Fatal(d, n, got, e)
			}
			before = got
		}
	}
}

// P2.3: the 31 December of the year, or the last day.
func TestYearEnd(t *testing.T) {
	for d := 0; d <= api.MaxDay; d += 5 {
		year, _, _, _ := Date(d)
		want := api.MaxDay
		if year < 4470 {
			want = at(t, fmt.Sprintf("%d-12-31", year))
		}
		if got, e := YearEnd(d); e != api.OK || got != want {
			t.Fatal(d, got, e)
		}
	}
	for i, x := range [][2]string{
		{"1600-01-01", "1600-12-31"}, {"1600-12-31", "1600-12-31"}, {"1601-01-01", "1601-12-31"},
		{"4469-12-31", "4469-12-31"}, {"4470-01-01", "4470-11-25"}, {"4470-11-25", "4470-11-25"},
	} {
		if got, e := YearEnd(at(t, x[0])); e != api.OK || got != at(t, x[1]) {
			t.Error(i, got, e)
		}
	}
}

// P2.4: which error a text has.
func TestParseErrors(t *testing.T) {
	for i, x := range []struct {
		text string
		e    api.Errno
	}{
		{"", api.ErrSyntax},
		{"1923", api.ErrSyntax},
		{"1923-04", api.ErrSyntax},
		{"1923-1-01", api.ErrSyntax},
		{"1923-1-001", api.ErrSyntax},
		{"1923-01-1", api.ErrSyntax},
		{"1923-01-011", api.ErrSyntax},
		{"1923-01-01 ", api.ErrSyntax},
		{" 1923-01-01", api.ErrSyntax},
		{"01923-01-01", api.ErrSyntax},
		{"923-01-01", api.ErrSyntax},
		{"+923-02-03", api.ErrSyntax},
		{"-923-02-03", api.ErrSyntax},
		{"1923-+2-03", api.ErrSyntax},
		{"1923-02-+3", api.ErrSyntax},
		{"1923/02/03", api.ErrSyntax},
		{"1923-02/03", api.ErrSyntax},
		{"1923.02-03", api.ErrSyntax},
		{"1923002003", api.ErrSyntax},
		{"----------", api.ErrSyntax},
		{"1923-02-3x", api.ErrSyntax},
		{"192:-02-03", api.ErrSyntax},
		{"1923-02-\xb3\xb3", api.ErrSyntax},
		// A text without the form is no date either, but the form comes first.
		{"9999-99-9x", api.ErrSyntax},
		{"1923-02-30", api.ErrRange},
		{"1923-00-01", api.ErrRange},
		{"1923-13-01", api.ErrRange},
		{"1923-01-00", api.ErrRange},
		{"1923-01-32", api.ErrRange},
		{"1900-02-29", api.ErrRange},
		{"1599-12-31", api.ErrRange},
		{"0000-00-00", api.ErrRange},
		{"4470-11-26", api.ErrRange},
		{"4471-01-01", api.ErrRange},
		{"9999-99-99", api.ErrRange},
	} {
		if d, e := Parse(x.text); d != 0 || e != x.e {
			t.Error(i, x.text, d, e)
		}
	}
}

// P2.5: 400 years are 146097 days, and whole weeks.
func TestCycle(t *testing.T) {
	for d := 0; d+146097 <= api.MaxDay; d += 3 {
		y, m, x, e := Date(d)
		yy, mm, xx, f := Date(d + 146097)
		if e != api.OK || f != api.OK || yy != y+400 || mm != m || xx != x {
			t.Fatal(d, yy, mm, xx, e, f)
		}
		w, _ := Weekday(d)
		ww, _ := Weekday(d + 146097)
		if w != ww {
			t.Fatal(d, w, ww)
		}
	}
}
