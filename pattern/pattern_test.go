package pattern_test

import (
	"math"
	"math/rand"
	"testing"
	"time"

	"plenum/api"
	"plenum/pattern"
)

// date returns a date.
func date(year, month, day int) api.Date { return api.Date{Year: year, Month: month, Day: day} }

// between returns a range.
func between(from, to api.Date) api.Pattern { return api.Pattern{From: from, To: to} }

// number returns the day of a date as the standard library counts it.
func number(d api.Date) int {
	at := time.Date(d.Year, time.Month(d.Month), d.Day, 0, 0, 0, 0, time.UTC)
	return int(at.Sub(time.Date(2000, 1, 1, 0, 0, 0, 0, time.UTC)) / (24 * time.Hour))
}

// matches is the definition for valid patterns and days of the calendar.
func matches(p api.Pattern, day int) bool {
	if p.From != (api.Date{}) || p.To != (api.Date{}) {
		return (p.From == api.Date{} || number(p.From) <= day) && (p.To == api.Date{} || day <= number(p.To))
	}
	at := time.Date(2000, 1, 1+day, 0, 0, 0, 0, time.UTC)
	month, of := int(at.Month()), at.Day()
	last := time.Date(at.Year(), at.Month()+1, 0, 0, 0, 0, 0, time.UTC).Day()
	return (p.Year == 0 || p.Year == at.Year()) &&
		(p.Month == 0 || p.Month == month || p.Month == 13 && month%2 == 1 || p.Month == 14 && month%2 == 0) &&
		(p.Day == 0 || p.Day == of || p.Day == 32 && of == last || p.Day == 33 && of%2 == 1 || p.Day == 34 && of%2 == 0) &&
		(p.Weekday == 0 || p.Weekday%7 == int(at.Weekday())) &&
		(p.Week == 0 || p.Week < 6 && 7*p.Week-6 <= of && of <= 7*p.Week || p.Week == 6 && of > last-7)
}

// valid are ordinary patterns, and those at the limits.
func valid() []api.Pattern {
	list := []api.Pattern{
		{}, {Month: 12, Day: 25}, {Weekday: 1, Week: 1}, {Month: 2, Day: api.LastDay}, {Month: 2, Day: 29}, {Month: 2, Day: 30}, {Day: 31}, {Month: 4, Day: 31}, {Day: 31, Week: 1}, {Year: 2001, Month: 2, Day: 29}, {Year: 2000}, {Year: 2199}, {Year: 2100, Month: 2, Day: api.LastDay},
		{Year: 2000, Month: 1, Day: 1}, {Year: 2199, Month: 12, Day: 31}, {Year: 2000, Month: 1, Day: 1, Weekday: 6, Week: 1}, {Year: 2000, Month: 1, Day: 1, Weekday: 7}, {Month: api.OddMonths, Day: api.EvenDays}, {Month: api.EvenMonths, Day: api.OddDays}, {Weekday: 7, Week: 6}, {Week: 5}, {Week: 6}, {Month: 2, Week: 5}, {Month: api.EvenMonths, Day: api.LastDay, Weekday: 3, Week: 6},
		between(date(2000, 1, 1), api.Date{}), between(api.Date{}, date(2000, 1, 1)), between(date(2199, 12, 31), api.Date{}), between(api.Date{}, date(2199, 12, 31)), between(date(2000, 1, 1), date(2199, 12, 31)),
		between(date(2026, 12, 24), date(2027, 1, 6)), between(date(2024, 2, 29), date(2024, 2, 29)), between(date(2024, 2, 29), api.Date{}), between(api.Date{}, date(2024, 2, 29)),
	}
	for n := range 15 {
		list = append(list, api.Pattern{Month: n}, api.Pattern{Month: n, Day: api.LastDay})
	}
	for n := range 35 {
		list = append(list, api.Pattern{Day: n}, api.Pattern{Month: 2, Day: n})
	}
	for n := range 8 {
		list = append(list, api.Pattern{Weekday: n}, api.Pattern{Weekday: n, Week: n % 7})
	}
	for n := range 7 {
		list = append(list, api.Pattern{Week: n}, api.Pattern{Month: 2, Week: n})
	}
	return list
}

// random returns a valid pattern in which most fields are 0.
func random(source *rand.Rand) api.Pattern {
	if source.Intn(8) == 0 {
		a, b := source.Intn(2000), source.Intn(2000)
		p := between(dateOf(9000+min(a, b)), dateOf(9000+max(a, b)))
		switch source.Intn(3) {
		case 0:
			p.From = api.Date{}
		case 1:
			p.To = api.Date{}
		}
		return p
	}
	p := api.Pattern{}
	for _, field := range []struct {
		n           *int
		first, most int
	}{{&p.Year, 2020, 2031}, {&p.Month, 1, api.EvenMonths}, {&p.Day, 1, api.EvenDays}, {&p.Weekday, 1, 7}, {&p.Week, 1, 6}} {
		if source.Intn(5) < 2 {
			*field.n = field.first + source.Intn(field.most-field.first+1)
		}
	}
	return p
}

// dateOf returns the date of a day as the standard library counts it.
func dateOf(day int) api.Date {
	at := time.Date(2000, 1, 1+day, 0, 0, 0, 0, time.UTC)
	return date(at.Year(), int(at.Month()), at.Day())
}

// invalid are patterns that are not valid, with their errors.
func invalid() []refusal {
	day, later := date(2026, 12, 24), date(2027, 1, 6)
	none := api.Date{}
	list := []refusal{
		{api.Pattern{Year: 2026, From: day}, api.ErrConflict}, {api.Pattern{Month: 1, To: day}, api.ErrConflict}, {api.Pattern{Day: 1, From: day, To: later}, api.ErrConflict}, {api.Pattern{Weekday: 1, From: day}, api.ErrConflict}, {api.Pattern{Week: 1, From: day}, api.ErrConflict},
		{api.Pattern{Week: -1, From: day}, api.ErrConflict}, {api.Pattern{Week: 9, From: date(1999, 1, 1)}, api.ErrConflict}, {api.Pattern{Year: 1, To: date(2026, 2, 30)}, api.ErrConflict}, {api.Pattern{Month: 99, From: later, To: day}, api.ErrConflict},
		{between(date(1999, 12, 31), none), api.ErrInvalid}, {between(date(2200, 1, 1), none), api.ErrInvalid}, {between(none, date(1999, 12, 31)), api.ErrInvalid}, {between(none, date(2200, 1, 1)), api.ErrInvalid}, {between(date(0, 1, 0), none), api.ErrInvalid}, {between(none, date(0, 0, 1)), api.ErrInvalid}, {between(date(math.MinInt, 1, 1), date(math.MaxInt, 1, 1)), api.ErrInvalid},
		{between(date(2026, 2, 29), none), api.ErrRange}, {between(none, date(2026, 13, 1)), api.ErrRange}, {between(date(2026, 0, 0), none), api.ErrRange}, {between(none, date(2026, 1, math.MaxInt)), api.ErrRange},
		{between(date(2026, 2, 29), date(1999, 1, 1)), api.ErrRange}, {between(date(1999, 1, 1), date(2026, 2, 29)), api.ErrInvalid}, {between(later, date(1999, 1, 1)), api.ErrInvalid}, {between(date(2200, 1, 1), day), api.ErrInvalid},
		{between(later, day), api.ErrRange}, {between(date(2026, 12, 25), day), api.ErrRange}, {between(date(2026, 12, 1), date(2026, 11, 30)), api.ErrRange}, {between(date(2027, 1, 1), date(2026, 12, 31)), api.ErrRange}, {between(date(2199, 12, 31), date(2000, 1, 1)), api.ErrRange},
		{api.Pattern{Year: 1999, Month: 1, Day: 1, Weekday: 1, Week: 1}, api.ErrRange}, {api.Pattern{Year: 2026, Month: 15, Day: 35}, api.ErrRange},
	}
	for _, n := range []int{-1, 1, 1999, 2200, math.MinInt, math.MaxInt} {
		list = append(list, refusal{api.Pattern{Year: n}, api.ErrRange})
	}
	for _, n := range []int{-1, math.MinInt, math.MaxInt} {
		list = append(list, refusal{api.Pattern{Month: n}, api.ErrRange}, refusal{api.Pattern{Day: n}, api.ErrRange}, refusal{api.Pattern{Weekday: n}, api.ErrRange}, refusal{api.Pattern{Week: n}, api.ErrRange})
	}
	return append(list, refusal{api.Pattern{Month: 15}, api.ErrRange}, refusal{api.Pattern{Day: 35}, api.ErrRange}, refusal{api.Pattern{Weekday: 8}, api.ErrRange}, refusal{api.Pattern{Week: 7}, api.ErrRange})
}

// refusal is a pattern with the error that it leads to.
type refusal struct {
	p    api.Pattern
	want api.Errno
}

// outside are numbers that are no days.
var outside = []int{-1, api.MaxDay + 1, -31, math.MinInt, math.MaxInt}

func TestP6_1Check(t *testing.T) {
	for _, p := range valid() {
		if e := pattern.Check(p); e != api.OK {
			t.Errorf("Check of %v: %d", p, e)
		}
	}
	for _, r := range invalid() {
		if e := pattern.Check(r.p); e != r.want {
			t.Errorf("Check of %v: %d, not %d", r.p, e, r.want)
		}
	}
}

func TestP6_1MatchesIsDefinition(t *testing.T) {
	for _, p := range valid() {
		for _, part := range [][2]int{{0, 800}, {1400, 1900}, {8700, 8900}, {9800, 9900}, {36500, 36650}, {api.MaxDay - 400, api.MaxDay}} {
			for day := part[0]; day <= part[1]; day++ {
				if got := pattern.Matches(p, day); got != matches(p, day) {
					t.Fatalf("Matches of %v and %d: %t", p, day, got)
				}
			}
		}
	}
	source := rand.New(rand.NewSource(1))
	for range 200000 {
		p, day := random(source), 7000+source.Intn(5000)
		if got := pattern.Matches(p, day); got != matches(p, day) {
			t.Fatalf("Matches of %v and %d: %t", p, day, got)
		}
	}
}

func TestP6_1MatchesNothing(t *testing.T) {
	for _, p := range valid() {
		for _, day := range outside {
			if pattern.Matches(p, day) {
				t.Errorf("%v matches %d", p, day)
			}
		}
	}
	for _, r := range invalid() {
		for _, day := range []int{-1, 0, 1, 9854, 9868, 10000, api.MaxDay, api.MaxDay + 1} {
			if pattern.Matches(r.p, day) {
				t.Errorf("%v matches %d", r.p, day)
			}
		}
	}
}

func TestP6_2Examples(t *testing.T) {
	holidays, leapDay := between(date(2026, 12, 24), date(2027, 1, 6)), api.Pattern{Month: 2, Day: 29}
	for _, r := range []struct {
		p         api.Pattern
		day       int
		next      int
		nextError api.Errno
		last      int
		lastError api.Errno
	}{
		{api.Pattern{Month: 12, Day: 25}, 0, 359, api.OK, 0, api.ErrNone}, {api.Pattern{Month: 12, Day: 25}, 359, 359, api.OK, 359, api.OK}, {api.Pattern{Month: 12, Day: 25}, 360, 724, api.OK, 359, api.OK},
		{api.Pattern{Day: 1}, 40, 60, api.OK, 31, api.OK}, {api.Pattern{}, 0, 0, api.OK, 0, api.OK}, {api.Pattern{}, api.MaxDay, api.MaxDay, api.OK, api.MaxDay, api.OK},
		{api.Pattern{Month: 2, Day: 30}, 0, 0, api.ErrNone, 0, api.ErrNone}, {api.Pattern{Month: 2, Day: 30}, api.MaxDay, 0, api.ErrNone, 0, api.ErrNone}, {api.Pattern{Month: 2, Day: 30}, 777, 0, api.ErrNone, 0, api.ErrNone},
		{leapDay, number(date(2096, 3, 1)), number(date(2104, 2, 29)), api.OK, number(date(2096, 2, 29)), api.OK}, {leapDay, api.MaxDay, 0, api.ErrNone, number(date(2196, 2, 29)), api.OK}, {leapDay, 0, 59, api.OK, 0, api.ErrNone},
		{holidays, 0, 9854, api.OK, 0, api.ErrNone}, {holidays, 9854, 9854, api.OK, 9854, api.OK}, {holidays, 9860, 9860, api.OK, 9860, api.OK}, {holidays, 9867, 9867, api.OK, 9867, api.OK}, {holidays, 9868, 0, api.ErrNone, 9867, api.OK}, {holidays, api.MaxDay, 0, api.ErrNone, 9867, api.OK},
		{api.Pattern{Year: 2001}, 0, 366, api.OK, 0, api.ErrNone}, {api.Pattern{Year: 2001}, 5000, 0, api.ErrNone, 730, api.OK}, {api.Pattern{Weekday: 6}, 1, 7, api.OK, 0, api.OK}, {api.Pattern{Weekday: 2}, api.MaxDay, api.MaxDay, api.OK, api.MaxDay, api.OK}, {api.Pattern{Weekday: 3}, api.MaxDay, 0, api.ErrNone, api.MaxDay - 6, api.OK},
	} {
		if n, e := pattern.Next(r.p, r.day); n != r.next || e != r.nextError {
			t.Errorf("Next of %v and %d: %d, %d, not %d, %d", r.p, r.day, n, e, r.next, r.nextError)
		}
		if n, e := pattern.Last(r.p, r.day); n != r.last || e != r.lastError {
			t.Errorf("Last of %v and %d: %d, %d, not %d, %d", r.p, r.day, n, e, r.last, r.lastError)
		}
	}
}

func TestP6_2Count(t *testing.T) {
	for _, r := range []struct {
		p        api.Pattern
		from, to int
		want     int
	}{
		{api.Pattern{Weekday: 6}, 0, 13, 2}, {api.Pattern{Weekday: 6}, 0, 14, 3}, {api.Pattern{Weekday: 6}, 1, 14, 2}, {api.Pattern{Weekday: 6}, 0, 0, 1}, {api.Pattern{Weekday: 6}, 1, 1, 0}, {api.Pattern{Weekday: 6}, 14, 0, 0}, {api.Pattern{}, 5, 4, 0}, {api.Pattern{}, api.MaxDay, 0, 0}, {api.Pattern{}, 4, 4, 1},
		{api.Pattern{}, 0, api.MaxDay, api.MaxDay + 1}, {between(date(2026, 12, 24), date(2027, 1, 6)), 0, api.MaxDay, 14}, {between(date(2026, 12, 24), date(2027, 1, 6)), 9860, 9999, 8}, {api.Pattern{Month: 2, Day: 29}, 0, api.MaxDay, 49}, {api.Pattern{Month: 2, Day: 30}, 0, api.MaxDay, 0},
		{api.Pattern{Day: api.LastDay}, 0, api.MaxDay, 2400}, {api.Pattern{Weekday: 1, Week: 1}, 0, api.MaxDay, 2400}, {api.Pattern{Weekday: 1, Week: 6}, 0, api.MaxDay, 2400}, {api.Pattern{Week: 6}, 0, api.MaxDay, 7 * 2400}, {api.Pattern{Year: 2100}, 0, api.MaxDay, 365}, {api.Pattern{Year: 2000}, 0, api.MaxDay, 366},
		{between(api.Date{}, date(2000, 1, 31)), 0, api.MaxDay, 31}, {between(date(2199, 12, 1), api.Date{}), 0, api.MaxDay, 31},
	} {
		if n, e := pattern.Count(r.p, r.from, r.to); n != r.want || e != api.OK {
			t.Errorf("Count of %v from %d to %d: %d, %d, not %d", r.p, r.from, r.to, n, e, r.want)
		}
	}
}

func TestP6_2IsDefinition(t *testing.T) {
	source := rand.New(rand.NewSource(2))
	for range 1000 {
		p, from := random(source), 7000+source.Intn(5000)
		to := from + source.Intn(1500)
		next, last, count := -1, -1, 0
		for day := from; day <= to; day++ {
			if matches(p, day) {
				if next < 0 {
					next = day
				}
				last = day
				count++
			}
		}
		if n, e := pattern.Count(p, from, to); n != count || e != api.OK {
			t.Fatalf("Count of %v from %d to %d: %d, %d, not %d", p, from, to, n, e, count)
		}
		if n, e := pattern.Next(p, from); next >= 0 && (n != next || e != api.OK) || next < 0 && e == api.OK && n <= to {
			t.Fatalf("Next of %v and %d: %d, %d, not %d", p, from, n, e, next)
		}
		if n, e := pattern.Last(p, to); last >= 0 && (n != last || e != api.OK) || last < 0 && e == api.OK && n >= from {
			t.Fatalf("Last of %v and %d: %d, %d, not %d", p, to, n, e, last)
		}
	}
}

func TestP6_2Errors(t *testing.T) {
	days := append([]int{0, api.MaxDay}, outside...)
	for _, r := range invalid() {
		for _, day := range days {
			if n, e := pattern.Next(r.p, day); n != 0 || e != r.want {
				t.Errorf("Next of %v and %d: %d, %d, not %d", r.p, day, n, e, r.want)
			}
			if n, e := pattern.Last(r.p, day); n != 0 || e != r.want {
				t.Errorf("Last of %v and %d: %d, %d, not %d", r.p, day, n, e, r.want)
			}
			if n, e := pattern.Count(r.p, day, day); n != 0 || e != r.want {
				t.Errorf("Count of %v and %d: %d, %d, not %d", r.p, day, n, e, r.want)
			}
		}
	}
	for _, p := range []api.Pattern{{}, {Month: 2, Day: 30}, between(date(2026, 12, 24), api.Date{})} {
		for _, day := range outside {
			if n, e := pattern.Next(p, day); n != 0 || e != api.ErrInvalid {
				t.Errorf("Next of %v and %d: %d, %d", p, day, n, e)
			}
			if n, e := pattern.Last(p, day); n != 0 || e != api.ErrInvalid {
				t.Errorf("Last of %v and %d: %d, %d", p, day, n, e)
			}
			for _, ends := range [][2]int{{day, 0}, {0, day}, {day, day}, {api.MaxDay, day}, {day, api.MaxDay}} {
				if n, e := pattern.Count(p, ends[0], ends[1]); n != 0 || e != api.ErrInvalid {
					t.Errorf("Count of %v from %d to %d: %d, %d", p, ends[0], ends[1], n, e)
				}
			}
		}
	}
}

func TestP6_4Examples(t *testing.T) {
	holidays := between(date(2026, 12, 24), date(2027, 1, 6))
	for _, r := range []struct {
		p, q  api.Pattern
		is    bool
		first int
	}{
		{holidays, api.Pattern{}, true, 0}, {holidays, api.Pattern{Month: 12}, false, number(date(2027, 1, 1))}, {api.Pattern{}, holidays, false, 0}, {holidays, holidays, true, 0}, {holidays, between(api.Date{}, date(2027, 1, 5)), false, 9867}, {holidays, between(date(2026, 12, 25), api.Date{}), false, 9854}, {holidays, between(date(2026, 12, 24), api.Date{}), true, 0},
		{api.Pattern{Month: 12, Day: 31}, api.Pattern{Day: api.LastDay}, true, 0}, {api.Pattern{Month: 2, Day: 28}, api.Pattern{Day: api.LastDay}, false, 58}, {api.Pattern{Year: 2001, Month: 2, Day: 28}, api.Pattern{Day: api.LastDay}, true, 0}, {api.Pattern{Month: 2, Day: 29}, api.Pattern{Day: api.LastDay}, true, 0}, {api.Pattern{Day: api.LastDay}, api.Pattern{Week: 6}, true, 0}, {api.Pattern{Week: 6}, api.Pattern{Day: api.LastDay}, false, 24},
		{api.Pattern{Month: 2, Day: 30}, api.Pattern{Year: 2199, Month: 12, Day: 31}, true, 0}, {api.Pattern{Month: 2, Day: 30}, api.Pattern{Month: 2, Day: 31}, true, 0}, {api.Pattern{}, api.Pattern{Month: 2, Day: 30}, false, 0}, {api.Pattern{Month: 3}, api.Pattern{Month: api.OddMonths}, true, 0}, {api.Pattern{Month: 3}, api.Pattern{Month: api.EvenMonths}, false, 60},
		{api.Pattern{}, between(api.Date{}, date(2199, 12, 30)), false, api.MaxDay}, {api.Pattern{}, between(api.Date{}, date(2199, 12, 31)), true, 0}, {api.Pattern{}, between(date(2000, 1, 1), api.Date{}), true, 0}, {between(date(2000, 1, 1), date(2000, 12, 31)), api.Pattern{Year: 2000}, true, 0}, {api.Pattern{Year: 2000}, between(date(2000, 1, 1), date(2000, 12, 31)), true, 0},
	} {
		if is, first, e := pattern.Implies(r.p, r.q); is != r.is || first != r.first || e != api.OK {
			t.Errorf("Implies of %v and %v: %t, %d, %d, not %t, %d", r.p, r.q, is, first, e, r.is, r.first)
		}
	}
}

func TestP6_4Errors(t *testing.T) {
	for _, r := range invalid() {
		for _, pair := range [][2]api.Pattern{{r.p, {}}, {{}, r.p}, {r.p, {Month: 15}}, {r.p, {Week: 1, From: date(2000, 1, 1)}}, {{Month: 2, Day: 30}, r.p}} {
			if is, first, e := pattern.Implies(pair[0], pair[1]); is || first != 0 || e != r.want {
				t.Errorf("Implies of %v and %v: %t, %d, %d, not %d", pair[0], pair[1], is, first, e, r.want)
			}
		}
	}
}

func TestP6_4IsDefinition(t *testing.T) {
	source := rand.New(rand.NewSource(3))
	for range 1000 {
		p, q := random(source), random(source)
		if source.Intn(2) == 0 { // more that hold
			q = weaker(source, p)
		}
		is, first, e := pattern.Implies(p, q)
		if e != api.OK || is && first != 0 || !is && (!matches(p, first) || matches(q, first)) {
			t.Fatalf("Implies of %v and %v: %t, %d, %d", p, q, is, first, e)
		}
		until := first - 1
		if is {
			until = api.MaxDay
		}
		for range 300 {
			if day := source.Intn(until + 2); day <= until && matches(p, day) && !matches(q, day) {
				t.Fatalf("Implies of %v and %v: %t, %d, but there is the day %d", p, q, is, first, day)
			}
		}
		for day := max(0, until-300); day <= until; day++ {
			if matches(p, day) && !matches(q, day) {
				t.Fatalf("Implies of %v and %v: %t, %d, but there is the day %d", p, q, is, first, day)
			}
		}
	}
}

// weaker returns a pattern without some of the fields of another one.
func weaker(source *rand.Rand, p api.Pattern) api.Pattern {
	for _, field := range []*int{&p.Year, &p.Month, &p.Day, &p.Weekday, &p.Week} {
		if source.Intn(2) == 0 {
			*field = 0
		}
	}
	return p
}

func TestP6_5Between(t *testing.T) {
	source := rand.New(rand.NewSource(4))
	for range 3000 {
		p, from := random(source), 7000+source.Intn(4000)
		next, e := pattern.Next(p, from)
		if e != api.OK {
			continue
		}
		if next < from || !pattern.Matches(p, next) {
			t.Fatalf("Next of %v and %d: %d", p, from, next)
		}
		for day := from; day < next; day++ {
			if pattern.Matches(p, day) {
				t.Fatalf("%v matches %d between %d and %d", p, day, from, next)
			}
		}
		if last, e := pattern.Last(p, next); last != next || e != api.OK {
			t.Fatalf("Last of %v and %d: %d, %d", p, next, last, e)
		}
	}
}

func TestP6_5Sums(t *testing.T) {
	source := rand.New(rand.NewSource(5))
	for range 1000 {
		p, from := random(source), 7000+source.Intn(4000)
		middle := from + source.Intn(1000)
		to := middle + 1 + source.Intn(1000)
		a, _ := pattern.Count(p, from, middle)
		b, _ := pattern.Count(p, middle+1, to)
		if all, e := pattern.Count(p, from, to); all != a+b || e != api.OK {
			t.Fatalf("Count of %v from %d to %d: %d, %d, not %d + %d", p, from, to, all, e, a, b)
		}
	}
}

func TestP6_5Implies(t *testing.T) {
	for _, p := range valid() {
		for _, q := range []api.Pattern{{}, p} {
			if is, first, e := pattern.Implies(p, q); !is || first != 0 || e != api.OK {
				t.Errorf("Implies of %v and %v: %t, %d, %d", p, q, is, first, e)
			}
		}
	}
	source := rand.New(rand.NewSource(6))
	for range 300 {
		p := random(source)
		q := weaker(source, p)
		for _, r := range []api.Pattern{weaker(source, q), random(source)} {
			first, _, _ := pattern.Implies(p, q)
			second, _, _ := pattern.Implies(q, r)
			if both, _, _ := pattern.Implies(p, r); first && second && !both {
				t.Fatalf("%v implies %v, and that %v, but the first one does not imply it", p, q, r)
			}
		}
	}
}
