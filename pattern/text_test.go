package pattern_test

import (
	"math/rand"
	"strings"
	"testing"

	"plenum/api"
	"plenum/pattern"
)

// written are texts with their patterns.
func written() map[string]api.Pattern {
	return map[string]api.Pattern{
		"*-*-*": {}, "*-12-25": {Month: 12, Day: 25}, "*-*-* mon week 1": {Weekday: 1, Week: 1}, "*-02-last": {Month: 2, Day: api.LastDay}, "*-02-30": {Month: 2, Day: 30}, "2026-odd-last sun": {Year: 2026, Month: api.OddMonths, Day: api.LastDay, Weekday: 7}, "*-even-odd week last": {Month: api.EvenMonths, Day: api.OddDays, Week: 6},
		"2000-*-*": {Year: 2000}, "2199-*-*": {Year: 2199}, "*-01-*": {Month: 1}, "*-12-*": {Month: 12}, "*-odd-*": {Month: 13}, "*-even-*": {Month: 14}, "*-*-01": {Day: 1}, "*-*-09": {Day: 9}, "*-*-10": {Day: 10}, "*-*-31": {Day: 31}, "*-*-last": {Day: 32}, "*-*-odd": {Day: 33}, "*-*-even": {Day: 34}, "2026-12-24": {Year: 2026, Month: 12, Day: 24}, "2025-02-29": {Year: 2025, Month: 2, Day: 29}, "2100-04-31": {Year: 2100, Month: 4, Day: 31},
		"*-*-* mon": {Weekday: 1}, "*-*-* tue": {Weekday: 2}, "*-*-* wed": {Weekday: 3}, "*-*-* thu": {Weekday: 4}, "*-*-* fri": {Weekday: 5}, "*-*-* sat": {Weekday: 6}, "*-*-* sun": {Weekday: 7},
		"*-*-* week 1": {Week: 1}, "*-*-* week 2": {Week: 2}, "*-*-* week 3": {Week: 3}, "*-*-* week 4": {Week: 4}, "*-*-* week 5": {Week: 5}, "*-*-* week last": {Week: 6}, "2026-11-16 mon week 3": {Year: 2026, Month: 11, Day: 16, Weekday: 1, Week: 3}, "2199-even-even fri week last": {Year: 2199, Month: 14, Day: 34, Weekday: 5, Week: 6},
		"2026-12-24 to 2027-01-06": between(date(2026, 12, 24), date(2027, 1, 6)), "2024-02-29 to 2024-02-29": between(date(2024, 2, 29), date(2024, 2, 29)), "* to 2027-01-06": between(api.Date{}, date(2027, 1, 6)), "2026-12-24 to *": between(date(2026, 12, 24), api.Date{}), "* to 2000-01-01": between(api.Date{}, date(2000, 1, 1)), "2199-12-31 to *": between(date(2199, 12, 31), api.Date{}),
	}
}

func TestP6_3Texts(t *testing.T) {
	for text, p := range written() {
		if s, e := pattern.Text(p); s != text || e != api.OK {
			t.Errorf("Text of %v: %q, %d, not %q", p, s, e, text)
		}
		if got, e := pattern.Parse(text); got != p || e != api.OK {
			t.Errorf("Parse of %q: %v, %d, not %v", text, got, e, p)
		}
	}
	for _, r := range invalid() {
		if s, e := pattern.Text(r.p); s != "" || e != r.want {
			t.Errorf("Text of %v: %q, %d, not %d", r.p, s, e, r.want)
		}
	}
}

// refuses fails unless Parse returns an error for each of the texts.
func refuses(t *testing.T, want api.Errno, texts ...string) {
	t.Helper()
	for _, s := range texts {
		if p, e := pattern.Parse(s); p != (api.Pattern{}) || e != want {
			t.Errorf("Parse of %q: %v, %d, not %d", s, p, e, want)
		}
	}
}

func TestP6_3OutOfRange(t *testing.T) {
	refuses(t, api.ErrRange, "0000-*-*", "0001-*-*", "1999-*-*", "2200-*-*", "9999-*-*", "*-00-*", "*-13-*", "*-14-*", "*-15-*", "*-99-*", "*-*-00", "*-*-32", "*-*-33", "*-*-34", "*-*-35", "*-*-99", "0000-00-00", "2026-00-01", "2026-13-01 mon week 1", "1999-12-31", "2026-12-32 week last", "*-00-last fri")
	refuses(t, api.ErrRange, "2026-02-30 to *", "* to 2026-02-29", "2026-00-01 to *", "* to 2026-13-01", "2026-01-00 to 2026-01-32", "2026-05-01 to 2026-04-01", "2026-05-02 to 2026-05-01", "2026-02-30 to 1999-01-01", "2026-02-30 to 0000-01-01")
}

func TestP6_3NoDate(t *testing.T) {
	refuses(t, api.ErrInvalid, "1999-01-01 to *", "* to 2200-01-01", "0000-01-01 to *", "* to 0000-00-01", "1999-02-30 to 2026-13-01", "2026-05-01 to 1999-01-01", "1999-99-99 to 2026-02-30")
	refuses(t, api.ErrInvalid, "0000-00-00 to *", "* to 0000-00-00", "0000-00-00 to 0000-00-00", "2026-05-01 to 0000-00-00", "0000-00-00 to 2026-05-01", "0000-00-00 to 2026-02-30", "2026-02-30 to 0000-00-00")
}

func TestP6_3Syntax(t *testing.T) {
	refuses(t, api.ErrSyntax, "", " ", "*", "-", "--", "*-*", "*-*-", "-*-*", "*--*", "*-*-*-*", "*-1-*", "*-*-1", "*-012-*", "*-*-012", "26-*-*", "02026-*-*", "**-*-*", "*-**-*", "*-*-**", "2026", "2026-12", "20x6-*-*", "+026-*-*", "*-+1-*", "*-*- 1", "*-*-1x", "*-*-\xb2\xb9", "*-1\x00-*", "2026/12/24", "2026 12 24")
	refuses(t, api.ErrSyntax, "last-*-*", "odd-*-*", "even-*-*", "*-last-*", "*-Odd-*", "*-*-ODD", "*-*-Last", "*-ev-*", "*-*-las", "*-*-lastly", "*-jan-*", "*-*-mon", "week-*-*", "*-*-week")
	refuses(t, api.ErrSyntax, " *-*-*", "*-*-* ", "*-*-*  mon", "*-*-* mon ", "*-*-*mon", "*-*-* Mon", "*-*-* monday", "*-*-* mo", "*-*-* 1", "*-*-* 01", "*-*-* *", "*-*-* last", "*-*-* mon tue", "*-*-* mon mon", "*-*-* odd", "*-*-*\tmon", "*-*-* mon\n", "mon", "mon *-*-*", "*-*-* ")
	refuses(t, api.ErrSyntax, "*-*-* week", "*-*-* week ", "*-*-* week 0", "*-*-* week 6", "*-*-* week 9", "*-*-* week 01", "*-*-* week 11", "*-*-* week *", "*-*-* week odd", "*-*-* week mon", "*-*-* week1", "*-*-* week  1", "*-*-* week 1 ", "*-*-* Week 1", "*-*-* week 1 mon", "*-*-* week 1 week 1", "*-*-* 1 week", "*-*-* mon week", "*-*-* mon week 6", "*-*-* mon 1", "*-*-* week Last", "week 1", "*-*-* mon  week 1", "*-*-* mon tue week 1")
	refuses(t, api.ErrSyntax, "* to *", "to", " to ", " to *", "* to ", "* to", "to *", "* to * to *", "*to 2026-01-01", "* TO 2026-01-01", "*  to 2026-01-01", "* to  2026-01-01", " * to 2026-01-01", "* to 2026-01-01 ", "2026-01-01 - 2026-01-02", "2026-01-01 2026-01-02", "2026-01-01 to 2026-01-02 to 2026-01-03", "2026-01-01 to 2026-01-02 mon", "2026-01-01 mon to 2026-01-02")
	refuses(t, api.ErrSyntax, "2026-*-* to *", "* to *-*-*", "2026-01-last to *", "2026-odd-01 to *", "2026-1-01 to *", "26-01-01 to *", "2026-01-01 to 2026-01", "* to last")
	// No error of a number is named before the form.
	refuses(t, api.ErrSyntax, "1999-13-32 mon week 6", "0000-00-00 mo", "*-13-1", "1999-01-01 to x", "x to 1999-01-01", "0000-00-00 to x", "x to 0000-00-00", "2026-02-30 to ", "2026-05-01 to 2026-04-1", "0000-00-00 to 0000-00-00 to *")
	refuses(t, api.ErrSyntax, strings.Repeat("-", 100000), strings.Repeat(" ", 100000), strings.Repeat(" to ", 100000), strings.Repeat("0", 100000), strings.Repeat("*-*-* ", 10000), strings.Repeat("*", 100000)+"-*-*")
}

func TestP6_3AllNumbers(t *testing.T) {
	for n := range 10000 {
		year := string([]byte{byte('0' + n/1000), byte('0' + n/100%10), byte('0' + n/10%10), byte('0' + n%10)})
		want, wanted := api.Pattern{Year: n}, api.OK
		if n < 2000 || n > 2199 {
			want, wanted = api.Pattern{}, api.ErrRange
		}
		if p, e := pattern.Parse(year + "-*-*"); p != want || e != wanted {
			t.Errorf("Parse of the year %s: %v, %d", year, p, e)
		}
	}
	for n := range 100 {
		digits := string([]byte{byte('0' + n/10), byte('0' + n%10)})
		for text, field := range map[string]api.Pattern{"*-" + digits + "-*": {Month: n}, "*-*-" + digits: {Day: n}} {
			want, wanted := field, api.OK
			if n == 0 || field.Month > 12 || field.Day > 31 {
				want, wanted = api.Pattern{}, api.ErrRange
			}
			if p, e := pattern.Parse(text); p != want || e != wanted {
				t.Errorf("Parse of %q: %v, %d", text, p, e)
			}
		}
	}
}

func TestP6_5Texts(t *testing.T) {
	source := rand.New(rand.NewSource(7))
	list := valid()
	for range 20000 {
		list = append(list, random(source))
	}
	for _, p := range list {
		s, e := pattern.Text(p)
		if got, f := pattern.Parse(s); e != api.OK || got != p || f != api.OK {
			t.Fatalf("Text of %v: %q, %d; Parse: %v, %d", p, s, e, got, f)
		}
	}
}

// TestP6_3IsExact changes texts: what Parse accepts must be the text of the result.
func TestP6_3IsExact(t *testing.T) {
	source := rand.New(rand.NewSource(8))
	pieces := []string{"*", "-", " ", "to", "week", "last", "odd", "even", "mon", "sun", "0", "1", "2", "6", "01", "31", "2026", "2199"}
	var texts []string
	for range 3000 {
		s, _ := pattern.Text(random(source))
		texts = append(texts, s)
	}
	for range 100000 {
		s := texts[source.Intn(len(texts))]
		at := source.Intn(len(s) + 1)
		end := min(len(s), at+source.Intn(4))
		s = s[:at] + pieces[source.Intn(len(pieces))] + s[end:]
		p, e := pattern.Parse(s)
		if e != api.OK {
			if p != (api.Pattern{}) {
				t.Fatalf("Parse of %q: %v, %d", s, p, e)
			}
			continue
		}
		if text, f := pattern.Text(p); text != s || f != api.OK {
			t.Fatalf("Parse of %q: %v, whose text is %q", s, p, text)
		}
	}
}
