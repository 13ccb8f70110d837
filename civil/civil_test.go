package civil_test

import (
	"math"
	"testing"
	"time"

	"plenum/api"
	"plenum/civil"
)

// date returns a date.
func date(year, month, day int) api.Date { return api.Date{Year: year, Month: month, Day: day} }

// moment returns a day as the standard library counts it.
func moment(day int) time.Time { return time.Date(2000, 1, 1+day, 0, 0, 0, 0, time.UTC) }

// outside are numbers that are no days.
var outside = []int{-1, api.MaxDay + 1, -2, -365, api.MaxDay + 366, math.MinInt, math.MaxInt}

// bad are dates that do not exist, with their errors.
var bad = []struct {
	d    api.Date
	want api.Errno
}{
	{api.Date{}, api.ErrInvalid}, {date(1999, 12, 31), api.ErrInvalid}, {date(2200, 1, 1), api.ErrInvalid}, {date(0, 1, 1), api.ErrInvalid}, {date(-2000, 1, 1), api.ErrInvalid}, {date(math.MinInt, 1, 1), api.ErrInvalid}, {date(math.MaxInt, 1, 1), api.ErrInvalid},
	{date(1999, 13, 1), api.ErrInvalid}, {date(2200, 1, 0), api.ErrInvalid}, {date(1600, 0, 99), api.ErrInvalid}, {date(math.MaxInt, math.MaxInt, math.MaxInt), api.ErrInvalid},
	{date(2000, 0, 1), api.ErrRange}, {date(2000, 13, 1), api.ErrRange}, {date(2000, -1, 1), api.ErrRange}, {date(2000, math.MinInt, 1), api.ErrRange}, {date(2000, math.MaxInt, 1), api.ErrRange}, {date(2000, 0, 0), api.ErrRange}, {date(2199, 13, 31), api.ErrRange},
	{date(2000, 1, 0), api.ErrRange}, {date(2000, 1, 32), api.ErrRange}, {date(2000, 1, -1), api.ErrRange}, {date(2000, 1, math.MinInt), api.ErrRange}, {date(2000, 12, math.MaxInt), api.ErrRange},
	{date(2000, 2, 30), api.ErrRange}, {date(2001, 2, 29), api.ErrRange}, {date(2100, 2, 29), api.ErrRange}, {date(2024, 4, 31), api.ErrRange}, {date(2024, 11, 31), api.ErrRange}, {date(2199, 12, 32), api.ErrRange},
}

func TestP5_1Leap(t *testing.T) {
	for year, want := range map[int]bool{2000: true, 2096: true, 2100: false, 2104: true, 2001: false, 2023: false, 2024: true, 2199: false, 1900: false, 1600: true, 0: true, 4: true, 1: false, 100: false, 400: true, -1: false, -4: true, -100: false, -300: false, -400: true, -2: false, math.MaxInt: false, math.MinInt: true} {
		if civil.Leap(year) != want {
			t.Errorf("Leap(%d) is not %t", year, want)
		}
	}
	for year := -4000; year < 4000; year++ {
		if want := time.Date(year, 12, 31, 0, 0, 0, 0, time.UTC).YearDay() == 366; civil.Leap(year) != want {
			t.Errorf("Leap(%d) is not %t", year, want)
		}
	}
}

func TestP5_1DaysIn(t *testing.T) {
	for year := -500; year < 2500; year++ {
		for month := 1; month <= 12; month++ {
			if n, want := civil.DaysIn(year, month), time.Date(year, time.Month(month+1), 0, 0, 0, 0, 0, time.UTC).Day(); n != want {
				t.Errorf("DaysIn(%d, %d): %d, not %d", year, month, n, want)
			}
		}
		for _, month := range []int{0, 13, -1, 14, -12, math.MinInt, math.MaxInt} {
			if n := civil.DaysIn(year, month); n != 0 {
				t.Errorf("DaysIn(%d, %d): %d", year, month, n)
			}
		}
	}
	for _, year := range []int{math.MaxInt, 2100, 1900, -1} {
		if n := civil.DaysIn(year, 2); n != 28 {
			t.Errorf("DaysIn(%d, 2): %d", year, n)
		}
	}
	if n := civil.DaysIn(math.MinInt, 2); n != 29 {
		t.Errorf("DaysIn of the least year and 2: %d", n)
	}
}

func TestP5_1Check(t *testing.T) {
	for year := 1990; year < 2210; year++ {
		for month := -1; month <= 14; month++ {
			for day := -1; day <= 33; day++ {
				at := time.Date(year, time.Month(month), day, 0, 0, 0, 0, time.UTC)
				want := api.OK
				switch {
				case year < 2000 || year > 2199:
					want = api.ErrInvalid
				case at.Month() != time.Month(month) || at.Day() != day:
					want = api.ErrRange
				}
				if e := civil.Check(date(year, month, day)); e != want {
					t.Fatalf("Check of %d, %d, %d: %d, not %d", year, month, day, e, want)
				}
			}
		}
	}
	for _, r := range bad {
		if e := civil.Check(r.d); e != r.want {
			t.Errorf("Check of %v: %d, not %d", r.d, e, r.want)
		}
	}
}

func TestP5_2AllDays(t *testing.T) {
	for day := range api.MaxDay + 1 {
		at := moment(day)
		want := date(at.Year(), int(at.Month()), at.Day())
		if d, e := civil.Of(day); d != want || e != api.OK {
			t.Fatalf("Of(%d): %v, %d, not %v", day, d, e, want)
		}
		if n, e := civil.Day(want); n != day || e != api.OK {
			t.Fatalf("Day of %v: %d, %d, not %d", want, n, e, day)
		}
		if w, e := civil.Weekday(day); w != (int(at.Weekday())+6)%7+1 || e != api.OK {
			t.Fatalf("Weekday(%d): %d, %d, but it is a %v", day, w, e, at.Weekday())
		}
		year, week := at.ISOWeek()
		if y, w, e := civil.Week(day); y != year || w != week || e != api.OK {
			t.Fatalf("Week(%d): %d, %d, %d, not %d, %d", day, y, w, e, year, week)
		}
	}
}

func TestP5_2Examples(t *testing.T) {
	for _, r := range []struct {
		day, weekday, year, week int
		d                        api.Date
	}{
		{0, 6, 1999, 52, date(2000, 1, 1)}, {1, 7, 1999, 52, date(2000, 1, 2)}, {2, 1, 2000, 1, date(2000, 1, 3)}, {60, 3, 2000, 9, date(2000, 3, 1)},
		{9816, 1, 2026, 47, date(2026, 11, 16)}, {api.MaxDay, 2, 2200, 1, date(2199, 12, 31)}, {api.MaxDay - 2, 7, 2199, 52, date(2199, 12, 29)}, {366, 1, 2001, 1, date(2001, 1, 1)},
		{1826, 5, 2004, 53, date(2004, 12, 31)}, {1828, 7, 2004, 53, date(2005, 1, 2)}, {1829, 1, 2005, 1, date(2005, 1, 3)}, {3287, 3, 2009, 1, date(2008, 12, 31)},
	} {
		d, e := civil.Of(r.day)
		weekday, f := civil.Weekday(r.day)
		year, week, g := civil.Week(r.day)
		if d != r.d || weekday != r.weekday || year != r.year || week != r.week || e != api.OK || f != api.OK || g != api.OK {
			t.Errorf("the day %d: %v, %d, %d, %d", r.day, d, weekday, year, week)
		}
		if n, e := civil.Day(r.d); n != r.day || e != api.OK {
			t.Errorf("Day of %v: %d, %d", r.d, n, e)
		}
	}
}

func TestP5_2Errors(t *testing.T) {
	for _, day := range outside {
		if d, e := civil.Of(day); d != (api.Date{}) || e != api.ErrInvalid {
			t.Errorf("Of(%d): %v, %d", day, d, e)
		}
		if w, e := civil.Weekday(day); w != 0 || e != api.ErrInvalid {
			t.Errorf("Weekday(%d): %d, %d", day, w, e)
		}
		if y, w, e := civil.Week(day); y != 0 || w != 0 || e != api.ErrInvalid {
			t.Errorf("Week(%d): %d, %d, %d", day, y, w, e)
		}
	}
	for _, r := range bad {
		if n, e := civil.Day(r.d); n != 0 || e != r.want {
			t.Errorf("Day of %v: %d, %d, not %d", r.d, n, e, r.want)
		}
	}
}

func TestP5_3Examples(t *testing.T) {
	for _, r := range []struct {
		d    api.Date
		n    int
		want api.Date
	}{
		{date(2024, 1, 31), 1, date(2024, 2, 29)}, {date(2024, 1, 31), -2, date(2023, 11, 30)}, {date(2024, 1, 31), 0, date(2024, 1, 31)}, {date(2024, 1, 31), 13, date(2025, 2, 28)}, {date(2024, 2, 29), 12, date(2025, 2, 28)}, {date(2024, 2, 29), -1, date(2024, 1, 29)},
		{date(2024, 12, 31), 1, date(2025, 1, 31)}, {date(2024, 12, 1), 1, date(2025, 1, 1)}, {date(2024, 1, 15), -1, date(2023, 12, 15)}, {date(2024, 5, 31), -12, date(2023, 5, 31)}, {date(2024, 5, 31), 1, date(2024, 6, 30)}, {date(2096, 2, 29), 48, date(2100, 2, 28)},
		{date(2000, 1, 31), 2399, date(2199, 12, 31)}, {date(2199, 12, 31), -2399, date(2000, 1, 31)}, {date(2000, 1, 1), 11, date(2000, 12, 1)}, {date(2199, 12, 31), -1, date(2199, 11, 30)},
	} {
		if d, e := civil.Months(r.d, r.n); d != r.want || e != api.OK {
			t.Errorf("Months of %v and %d: %v, %d, not %v", r.d, r.n, d, e, r.want)
		}
	}
}

func TestP5_3Errors(t *testing.T) {
	for _, r := range bad {
		for _, n := range []int{0, 1, -1, math.MaxInt, math.MinInt} {
			if d, e := civil.Months(r.d, n); d != (api.Date{}) || e != r.want {
				t.Errorf("Months of %v and %d: %v, %d, not %d", r.d, n, d, e, r.want)
			}
		}
	}
	for _, r := range []struct {
		d api.Date
		n int
	}{
		{date(2000, 1, 31), -1}, {date(2000, 12, 31), -12}, {date(2199, 12, 1), 1}, {date(2199, 1, 1), 12}, {date(2000, 1, 1), 2400}, {date(2199, 12, 31), -2400}, {date(2100, 6, 1), 4800}, {date(2100, 6, 1), -4800},
		{date(2000, 1, 1), math.MaxInt}, {date(2000, 1, 1), math.MinInt}, {date(2199, 12, 31), math.MaxInt}, {date(2199, 12, 31), math.MinInt}, {date(2199, 12, 31), math.MaxInt - 2399}, {date(2199, 12, 31), math.MaxInt - 2398},
	} {
		if d, e := civil.Months(r.d, r.n); d != (api.Date{}) || e != api.ErrInvalid {
			t.Errorf("Months of %v and %d: %v, %d", r.d, r.n, d, e)
		}
	}
}

// later is the definition of Months within the calendar.
func later(d api.Date, n int) api.Date {
	for ; n > 0; n-- {
		if d.Month++; d.Month > 12 {
			d.Year, d.Month = d.Year+1, 1
		}
	}
	for ; n < 0; n++ {
		if d.Month--; d.Month < 1 {
			d.Year, d.Month = d.Year-1, 12
		}
	}
	d.Day = min(d.Day, time.Date(d.Year, time.Month(d.Month+1), 0, 0, 0, 0, 0, time.UTC).Day())
	return d
}

func TestP5_3IsDefinition(t *testing.T) {
	for day := 0; day <= api.MaxDay; day += 23 {
		d, _ := civil.Of(day)
		for n := -30; n <= 30; n++ {
			want, wanted := later(d, n), api.OK
			if want.Year < 2000 || want.Year > 2199 {
				want, wanted = api.Date{}, api.ErrInvalid
			}
			if got, e := civil.Months(d, n); got != want || e != wanted {
				t.Fatalf("Months of %v and %d: %v, %d, not %v, %d", d, n, got, e, want, wanted)
			}
		}
	}
}

func TestP5_4At(t *testing.T) {
	for _, r := range [][3]int{{0, 0, 0}, {1, 450, 113400}, {0, 1, 60}, {0, 1439, 86340}, {1, 0, 86400}, {9816, 720, 848145600}, {api.MaxDay, 0, api.MaxInstant - 86399}, {api.MaxDay, 1439, api.MaxInstant - 59}} {
		if at, e := civil.At(r[0], r[1]); at != r[2] || e != api.OK {
			t.Errorf("At(%d, %d): %d, %d, not %d", r[0], r[1], at, e, r[2])
		}
	}
	for _, minute := range []int{0, -1, 1439, 1440, math.MinInt, math.MaxInt} {
		for _, day := range outside {
			if at, e := civil.At(day, minute); at != 0 || e != api.ErrInvalid {
				t.Errorf("At(%d, %d): %d, %d", day, minute, at, e)
			}
		}
	}
	for _, minute := range []int{-1, 1440, 86400, math.MinInt, math.MaxInt} {
		for _, day := range []int{0, 1, api.MaxDay} {
			if at, e := civil.At(day, minute); at != 0 || e != api.ErrRange {
				t.Errorf("At(%d, %d): %d, %d", day, minute, at, e)
			}
		}
	}
}

func TestP5_4Split(t *testing.T) {
	for _, day := range []int{0, 1, 9816, api.MaxDay} {
		for minute := range api.DayMinutes {
			at, e := civil.At(day, minute)
			if e != api.OK {
				t.Fatalf("At(%d, %d): %d", day, minute, e)
			}
			for second := range 60 {
				if d, m, s, e := civil.Split(at + second); d != day || m != minute || s != second || e != api.OK {
					t.Fatalf("Split(%d): %d, %d, %d, %d", at+second, d, m, s, e)
				}
			}
		}
	}
	for at, want := range map[int][3]int{0: {0, 0, 0}, 59: {0, 0, 59}, 60: {0, 1, 0}, 86399: {0, 1439, 59}, 86400: {1, 0, 0}, 113459: {1, 450, 59}, api.MaxInstant: {api.MaxDay, 1439, 59}} {
		if d, m, s, e := civil.Split(at); [3]int{d, m, s} != want || e != api.OK {
			t.Errorf("Split(%d): %d, %d, %d, %d", at, d, m, s, e)
		}
	}
	for _, at := range []int{-1, -60, -86400, api.MaxInstant + 1, math.MinInt, math.MaxInt} {
		if d, m, s, e := civil.Split(at); d != 0 || m != 0 || s != 0 || e != api.ErrInvalid {
			t.Errorf("Split(%d): %d, %d, %d, %d", at, d, m, s, e)
		}
	}
}

func TestP5_6Days(t *testing.T) {
	last := date(1999, 12, 31)
	lastWeekday, lastYear, lastWeek, lastText := 5, 1999, 52, ""
	for day := range api.MaxDay + 1 {
		d, _ := civil.Of(day)
		n, _ := civil.Day(d)
		weekday, _ := civil.Weekday(day)
		year, week, _ := civil.Week(day)
		text, _ := civil.Text(d)
		if n != day || text <= lastText {
			t.Fatalf("the day %d has the date %v with the text %s and the number %d", day, d, text, n)
		}
		next := last.Year == d.Year && last.Month == d.Month && last.Day+1 == d.Day || last.Day >= 28 && d.Day == 1 && (last.Year == d.Year && last.Month+1 == d.Month || last.Year+1 == d.Year && last.Month == 12 && d.Month == 1)
		if !next || d.Day == 1 && last.Year >= 2000 && last.Day != civil.DaysIn(last.Year, last.Month) {
			t.Fatalf("behind %v there is %v", last, d)
		}
		if weekday != lastWeekday%7+1 {
			t.Fatalf("behind the weekday %d there is %d", lastWeekday, weekday)
		}
		same, following := year == lastYear && week == lastWeek, year == lastYear && week == lastWeek+1 || year == lastYear+1 && week == 1
		if weekday == 1 && !following || weekday != 1 && !same {
			t.Fatalf("behind week %d of %d there is week %d of %d on the weekday %d", lastWeek, lastYear, week, year, weekday)
		}
		if d.Month == 1 && d.Day == 4 && (year != d.Year || week != 1) || weekday == 4 && year != d.Year {
			t.Fatalf("%v is in week %d of %d", d, week, year)
		}
		last, lastWeekday, lastYear, lastWeek, lastText = d, weekday, year, week, text
	}
	for day := 0; day+7 <= api.MaxDay; day++ {
		a, _ := civil.Weekday(day)
		b, _ := civil.Weekday(day + 7)
		if a != b {
			t.Fatalf("seven days after the weekday %d there is %d", a, b)
		}
	}
}

func TestP5_6Years(t *testing.T) {
	for year := -3000; year < 3000; year++ {
		if civil.Leap(year) != civil.Leap(year+400) {
			t.Errorf("%d is not as %d", year, year+400)
		}
		for month := range 14 {
			if civil.DaysIn(year, month) != civil.DaysIn(year+400, month) {
				t.Errorf("the month %d of %d is not as that of %d", month, year, year+400)
			}
		}
	}
}
