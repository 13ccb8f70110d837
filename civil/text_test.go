package civil_test

import (
	"math"
	"strings"
	"testing"

	"plenum/api"
	"plenum/civil"
)

func TestP5_5Dates(t *testing.T) {
	for day := range api.MaxDay + 1 {
		d, _ := civil.Of(day)
		want := moment(day).Format("2006-01-02")
		if s, e := civil.Text(d); s != want || e != api.OK {
			t.Fatalf("Text of %v: %q, %d, not %q", d, s, e, want)
		}
		if got, e := civil.Parse(want); got != d || e != api.OK {
			t.Fatalf("Parse of %q: %v, %d", want, got, e)
		}
	}
	for _, r := range bad {
		if s, e := civil.Text(r.d); s != "" || e != r.want {
			t.Errorf("Text of %v: %q, %d, not %d", r.d, s, e, r.want)
		}
	}
}

func TestP5_5DateErrors(t *testing.T) {
	for s, want := range map[string]api.Errno{
		"1999-12-31": api.ErrInvalid, "2200-01-01": api.ErrInvalid, "0000-00-00": api.ErrInvalid, "9999-99-99": api.ErrInvalid, "1999-13-01": api.ErrInvalid, "0024-02-29": api.ErrInvalid,
		"2000-00-01": api.ErrRange, "2000-13-01": api.ErrRange, "2000-01-00": api.ErrRange, "2000-01-32": api.ErrRange, "2025-02-29": api.ErrRange, "2100-02-29": api.ErrRange, "2024-02-30": api.ErrRange, "2199-99-99": api.ErrRange, "2024-04-31": api.ErrRange,
		"": api.ErrSyntax, "-": api.ErrSyntax, "--": api.ErrSyntax, "2024": api.ErrSyntax, "2024-02": api.ErrSyntax, "2024-02-": api.ErrSyntax, "2024-02-29-": api.ErrSyntax, "2024-02-29-01": api.ErrSyntax, "-2024-02-29": api.ErrSyntax,
		"2024-2-29": api.ErrSyntax, "2024-02-9": api.ErrSyntax, "24-02-29": api.ErrSyntax, "02024-02-29": api.ErrSyntax, "2024-002-29": api.ErrSyntax, "2024-02-029": api.ErrSyntax, "2024-0229": api.ErrSyntax, "20240229": api.ErrSyntax, "202-402-29": api.ErrSyntax,
		" 2024-02-29": api.ErrSyntax, "2024-02-29 ": api.ErrSyntax, "2024-02-29\n": api.ErrSyntax, "2024 02 29": api.ErrSyntax, "2024/02/29": api.ErrSyntax, "2024:02:29": api.ErrSyntax, "2024-+2-29": api.ErrSyntax, "+024-02-29": api.ErrSyntax, "2024--2-29": api.ErrSyntax, "2024-02--9": api.ErrSyntax,
		"2024-0a-29": api.ErrSyntax, "20x4-02-29": api.ErrSyntax, "2_24-02-29": api.ErrSyntax, "2024-02-2\x00": api.ErrSyntax, "2024-02-\xb2\xb9": api.ErrSyntax, "2024-02-١": api.ErrSyntax, "1999-12-3": api.ErrSyntax, "*-02-29": api.ErrSyntax,
	} {
		if d, e := civil.Parse(s); d != (api.Date{}) || e != want {
			t.Errorf("Parse of %q: %v, %d, not %d", s, d, e, want)
		}
	}
	for _, s := range []string{strings.Repeat("-", 100000), strings.Repeat("9", 100000), strings.Repeat("2024-02-29", 10000)} {
		if d, e := civil.Parse(s); d != (api.Date{}) || e != api.ErrSyntax {
			t.Errorf("Parse of %d bytes: %v, %d", len(s), d, e)
		}
	}
}

func TestP5_5Clocks(t *testing.T) {
	minute := 0
	for hour := range 100 {
		for rest := range 100 {
			s := two(hour) + ":" + two(rest)
			n, e := civil.ParseClock(s)
			if hour > 23 || rest > 59 {
				if n != 0 || e != api.ErrRange {
					t.Errorf("ParseClock of %q: %d, %d", s, n, e)
				}
				continue
			}
			if n != minute || e != api.OK {
				t.Errorf("ParseClock of %q: %d, %d, not %d", s, n, e, minute)
			}
			if text, e := civil.Clock(minute); text != s || e != api.OK {
				t.Errorf("Clock(%d): %q, %d, not %q", minute, text, e, s)
			}
			minute++
		}
	}
	for _, minute := range []int{-1, -60, 1440, 1441, math.MinInt, math.MaxInt} {
		if s, e := civil.Clock(minute); s != "" || e != api.ErrRange {
			t.Errorf("Clock(%d): %q, %d", minute, s, e)
		}
	}
}

// two returns the two digits of a number.
func two(n int) string { return string([]byte{byte('0' + n/10), byte('0' + n%10)}) }

func TestP5_5ClockErrors(t *testing.T) {
	for _, s := range []string{"", ":", "7:30", "07:3", "007:30", "07:030", "0730", "07-30", "07.30", "07 30", "07:30:00", ":07:30", "07:30:", " 07:30", "07:30 ", "07:30\n", "-7:30", "+7:30", "07:-3", "0a:30", "07:3x", "24:0", "99:999", "07::30", "07:\xb2\xb9", "0\x00:30", strings.Repeat(":", 100000), strings.Repeat("0", 100000)} {
		if n, e := civil.ParseClock(s); n != 0 || e != api.ErrSyntax {
			t.Errorf("ParseClock of %q: %d, %d", s, n, e)
		}
	}
}
