package civil

import (
	"strconv"
	"strings"

	"plenum/api"
)

// Text returns the text of a date.
func Text(d api.Date) (string, api.Errno) {
	if e := Check(d); e != api.OK {
		return "", e
	}
	return strconv.Itoa(d.Year) + "-" + twoDigits(d.Month) + "-" + twoDigits(d.Day), api.OK
}

// Parse returns the date of a text.
func Parse(s string) (api.Date, api.Errno) {
	numbers, ok := readNumbers(s, "-", 4, 2, 2)
	if !ok {
		return api.Date{}, api.ErrSyntax
	}
	d := api.Date{Year: numbers[0], Month: numbers[1], Day: numbers[2]}
	if e := Check(d); e != api.OK {
		return api.Date{}, e
	}
	return d, api.OK
}

// Clock returns the text of a minute of a day.
func Clock(minute int) (string, api.Errno) {
	if e := checkMinute(minute); e != api.OK {
		return "", e
	}
	return twoDigits(minute/hourMinutes) + ":" + twoDigits(minute%hourMinutes), api.OK
}

// ParseClock returns the minute of a text.
func ParseClock(s string) (int, api.Errno) {
	numbers, ok := readNumbers(s, ":", 2, 2)
	if !ok {
		return 0, api.ErrSyntax
	}
	hour, minute := numbers[0], numbers[1]
	if hour >= dayHours || minute >= hourMinutes {
		return 0, api.ErrRange
	}
	return hour*hourMinutes + minute, api.OK
}

// twoDigits returns a number from 0 to 99 with two digits.
func twoDigits(n int) string {
	// The 1 in front keeps the zero, and is cut off.
	return strconv.Itoa(100 + n)[1:]
}

// readNumbers returns the numbers of a text that consists of them, each with so many digits, and a sign between each two.
func readNumbers(s, sign string, widths ...int) ([]int, bool) {
	parts := strings.Split(s, sign)
	if len(parts) != len(widths) {
		return nil, false
	}
	var numbers []int
	for i, part := range parts {
		if len(part) != widths[i] || strings.Trim(part, "0123456789") != "" {
			return nil, false
		}
		// So few digits are always a number.
		n, _ := strconv.Atoi(part)
		numbers = append(numbers, n)
	}
	return numbers, true
}
