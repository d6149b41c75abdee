package stamp

import (
	"strings"

	"estafette/api"
	"estafette/codec"
)

// Parse returns the moment that a text of Internal's form tells, which may be of a zone ahead of +0000 or behind it.
func Parse(s string) (int, api.Errno) {
	r := reader{rest: s}
	t := r.dateAndTime()
	ahead := r.zone()
	n, ok := secondsTo(t)
	n -= ahead
	if r.bad || r.rest != "" || !ok || !isMoment(n) {
		return 0, api.ErrDate
	}
	return n, api.OK
}

// reader takes a text apart from its beginning; it is bad as soon as something stands there that may not.
type reader struct {
	rest string
	bad  bool
}

func (r *reader) need(ok bool) {
	if !ok {
		r.bad = true
	}
}

// take returns the next bytes, none if there are not as many.
func (r *reader) take(many int) string {
	if len(r.rest) < many {
		r.bad = true
		return ""
	}
	s := r.rest[:many]
	r.rest = r.rest[many:]
	return s
}

func (r *reader) mark(want string) { r.need(r.take(len(want)) == want) }

func (r *reader) dateAndTime() api.Time {
	var t api.Time
	t.Day = r.day()
	r.mark("-")
	t.Month = r.month()
	r.mark("-")
	t.Year = r.digits(4)
	r.mark(" ")
	t.Hour = r.digits(2)
	r.mark(":")
	t.Minute = r.digits(2)
	r.mark(":")
	t.Second = r.digits(2)
	r.mark(" ")
	return t
}

// day leaves it to codec that no 0 stands ahead of a single digit.
func (r *reader) day() int {
	n, ok := codec.Number(strings.TrimPrefix(r.take(2), " "), 31)
	r.need(ok)
	return n
}

func (r *reader) month() int {
	s := r.take(3)
	for i, name := range monthNames {
		if s == name {
			return i + 1
		}
	}
	r.bad = true
	return 0
}

// digits goes digit by digit, since to codec a number has no zeros ahead.
func (r *reader) digits(many int) int {
	n := 0
	for range many {
		digit, ok := codec.Number(r.take(1), 9)
		r.need(ok)
		n = n*10 + digit
	}
	return n
}

// zone returns how many seconds a zone's time is ahead of that at +0000.
func (r *reader) zone() int {
	sign := r.take(1)
	r.need(sign == "+" || sign == "-")
	hours, minutes := r.digits(2), r.digits(2)
	r.need(hours <= 14 && minutes <= 59)
	ahead := hours*hourSeconds + minutes*minuteSeconds
	if sign == "-" {
		return -ahead
	}
	return ahead
}
