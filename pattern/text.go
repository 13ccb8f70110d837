package pattern

import (
	"slices"
	"strconv"
	"strings"

	"plenum/api"
	"plenum/civil"
)

// open is what stands for a part that matches all.
const open = "*"

// noDate has the form of a date, but is the zero date, which would leave an end of a range open.
const noDate = "0000-00-00"

// outside is what a number that is out of range becomes. No field may have it.
const outside = -1

// part is a part of a text: open for 0, one of the numbers from 1 to most with so many digits, or a word for one of the numbers behind most.
type part struct {
	digits, most int
	words        []string
}

// dateParts returns the year, the month and the day of a text.
func dateParts() [3]part {
	return [...]part{{4, 9999, nil}, {2, 12, []string{"odd", "even"}}, {2, 31, []string{"last", "odd", "even"}}}
}

// weekdays returns the words for the weekdays from 1 on.
func weekdays() part { return part{words: []string{"mon", "tue", "wed", "thu", "fri", "sat", "sun"}} }

// weeks returns the words for the weeks from 1 on.
func weeks() part { return part{words: []string{"1", "2", "3", "4", "5", "last"}} }

// text returns what stands for n.
func (p part) text(n int) string {
	switch {
	case n == 0:
		return open
	case n > p.most:
		return p.words[n-p.most-1]
	}
	digits := strconv.Itoa(n)
	return strings.Repeat("0", p.digits-len(digits)) + digits
}

// word returns what a word stands for, or 0 if it is none.
func (p part) word(s string) int {
	if i := slices.Index(p.words, s); i >= 0 {
		return p.most + 1 + i
	}
	return 0
}

// read returns what s stands for, and whether it has the form of the part.
func (p part) read(s string) (n int, ok bool) {
	if s == open {
		return 0, true
	}
	if n := p.word(s); n != 0 {
		return n, true
	}
	if len(s) != p.digits || strings.Trim(s, "0123456789") != "" {
		return 0, false
	}
	// So few digits are always a number.
	n, _ = strconv.Atoi(s)
	if n == 0 || n > p.most {
		return outside, true
	}
	return n, true
}

// Text returns the canonical text of a pattern.
func Text(p api.Pattern) (string, api.Errno) {
	if e := Check(p); e != api.OK {
		return "", e
	}
	if isRange(p) {
		return endText(p.From) + " to " + endText(p.To), api.OK
	}
	parts := dateParts()
	text := parts[0].text(p.Year) + "-" + parts[1].text(p.Month) + "-" + parts[2].text(p.Day)
	if p.Weekday != 0 {
		text += " " + weekdays().text(p.Weekday)
	}
	if p.Week != 0 {
		text += " week " + weeks().text(p.Week)
	}
	return text, api.OK
}

// endText returns the text of an end of a valid range.
func endText(end api.Date) string {
	if !isGiven(end) {
		return open
	}
	text, _ := civil.Text(end)
	return text
}

// Parse returns the pattern of a text.
func Parse(s string) (api.Pattern, api.Errno) {
	p, e := readText(s)
	if e == api.OK {
		e = Check(p)
	}
	if e != api.OK {
		return api.Pattern{}, e
	}
	return p, api.OK
}

// readText returns the pattern of a text, which is perhaps not valid.
func readText(s string) (api.Pattern, api.Errno) {
	if from, to, found := strings.Cut(s, " to "); found {
		return readRange(from, to)
	}
	return readFields(s)
}

// readRange returns the range from one text to another. Its ends are perhaps not in order.
func readRange(from, to string) (api.Pattern, api.Errno) {
	first, firstError := readEnd(from)
	last, lastError := readEnd(to)
	switch {
	case firstError == api.ErrSyntax || lastError == api.ErrSyntax || from == open && to == open:
		return api.Pattern{}, api.ErrSyntax
	case from == noDate || to == noDate:
		return api.Pattern{}, api.ErrInvalid
	case firstError != api.OK:
		return api.Pattern{}, firstError
	}
	return api.Pattern{From: first, To: last}, lastError
}

// readEnd returns an end of a range.
func readEnd(s string) (api.Date, api.Errno) {
	if s == open {
		return api.Date{}, api.OK
	}
	return civil.Parse(s)
}

// readFields returns the pattern of a text that is no range. It is not valid if a number is out of range.
func readFields(s string) (api.Pattern, api.Errno) {
	words := strings.Split(s, " ")
	p, ok := readDate(words[0])
	if !ok {
		return api.Pattern{}, api.ErrSyntax
	}
	rest := words[1:]
	if len(rest) > 0 {
		p.Weekday = weekdays().word(rest[0])
	}
	if p.Weekday != 0 {
		rest = rest[1:]
	}
	if len(rest) == 2 && rest[0] == "week" {
		p.Week = weeks().word(rest[1])
	}
	if p.Week != 0 {
		rest = nil
	}
	if len(rest) > 0 {
		return api.Pattern{}, api.ErrSyntax
	}
	return p, api.OK
}

// readDate returns a pattern with the year, the month and the day of a text, and whether it has their form.
func readDate(s string) (api.Pattern, bool) {
	parts := dateParts()
	texts := strings.Split(s, "-")
	if len(texts) != len(parts) {
		return api.Pattern{}, false
	}
	var numbers [3]int
	for i, p := range parts {
		n, ok := p.read(texts[i])
		if !ok {
			return api.Pattern{}, false
		}
		numbers[i] = n
	}
	return api.Pattern{Year: numbers[0], Month: numbers[1], Day: numbers[2]}, true
}
