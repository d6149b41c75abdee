package stamp_test

import (
	"regexp"
	"strconv"
	"testing"
	"time"

	"estafette/api"
	"estafette/stamp"
)

// dice throws the same numbers in each run.
type dice uint64

func (d *dice) throw(n int) int {
	*d = *d*6364136223846793005 + 1442695040888963407
	return int(uint64(*d) >> 32 % uint64(n))
}

var first = time.Date(2000, 1, 1, 0, 0, 0, 0, time.UTC)

func told(second int) time.Time { return time.Unix(first.Unix()+int64(second), 0).UTC() }

// form is P8.3 taken word by word, but for which days a month has.
var form = regexp.MustCompile(`\A( [0-9]|[1-9][0-9])-(Jan|Feb|Mar|Apr|May|Jun|Jul|Aug|Sep|Oct|Nov|Dec)-([0-9]{4}) ([01][0-9]|2[0-3]):([0-5][0-9]):([0-5][0-9]) [+-](0[0-9]|1[0-4])([0-5][0-9])\z`)

// parsed is what Parse is to find.
func parsed(s string) (int, bool) {
	if !form.MatchString(s) {
		return 0, false
	}
	x, err := time.Parse("_2-Jan-2006 15:04:05 -0700", s)
	n := x.Unix() - first.Unix()
	return int(n), err == nil && n >= 0 && n < api.MaxClock
}

func parsesAsTold(t *testing.T, s string) bool {
	t.Helper()
	if n, ok := parsed(s); ok {
		parse(t, s, n)
		return true
	}
	noParse(t, s)
	return false
}

// asTold holds all that is told of a moment against the library's calendar.
func asTold(t *testing.T, n int) {
	t.Helper()
	x := told(n)
	date := api.Time{
		Year: x.Year(), Month: int(x.Month()), Day: x.Day(),
		Hour: x.Hour(), Minute: x.Minute(), Second: x.Second(), Weekday: int(x.Weekday()),
	}
	of(t, n, date)
	if got, want := stamp.Header(n), x.Format("Mon, 02 Jan 2006 15:04:05 -0700"); got != want {
		t.Errorf("Header(%d): %q, want %q", n, got, want)
	}
	if got, want := stamp.Internal(n), x.Format("_2-Jan-2006 15:04:05 -0700"); got != want {
		t.Errorf("Internal(%d): %q, want %q", n, got, want)
	}
}

func backAndForth(t *testing.T, n int) {
	t.Helper()
	x, e := stamp.Of(n)
	if e != api.OK {
		t.Errorf("Of(%d): %d", n, e)
	}
	second(t, x, n)
	parse(t, stamp.Internal(n), n)
}

// order holds two dates against each other, number by number, the greatest first.
func order(x, y api.Time) int {
	for _, c := range [][2]int{{x.Year, y.Year}, {x.Month, y.Month}, {x.Day, y.Day}, {x.Hour, y.Hour}, {x.Minute, y.Minute}, {x.Second, y.Second}} {
		if c[0] != c[1] {
			return c[0] - c[1]
		}
	}
	return 0
}

func inOrder(t *testing.T, earlier, later int) {
	t.Helper()
	x, _ := stamp.Of(earlier)
	y, _ := stamp.Of(later)
	if order(x, y) >= 0 {
		t.Errorf("%d is %v, and %d is %v", earlier, x, later, y)
	}
}

// everyDay calls f with a moment of each day, and with each day's first and last one.
func everyDay(f func(n int)) {
	d := dice(81)
	for n := 0; n <= last; n += day {
		f(n)
		f(min(last, n+d.throw(day)))
		f(min(last, n+day-1))
	}
}

func TestP8_1And2EveryDay(t *testing.T) {
	everyDay(func(n int) { asTold(t, n) })
}

func TestP8_1And2EverySecondOfADay(t *testing.T) {
	for s := range day {
		asTold(t, 20000*day+s)
	}
}

func TestP8_4BackAndForth(t *testing.T) {
	everyDay(func(n int) { backAndForth(t, n) })
	for s := range day {
		backAndForth(t, 30000*day+s)
	}
}

func TestP8_4LaterMomentsHaveLaterDates(t *testing.T) {
	for n := 0; n < last; n += day {
		inOrder(t, n, n+1)
		inOrder(t, n, min(last, n+day))
		inOrder(t, n, min(last, n+day-1))
	}
	for s := range day {
		inOrder(t, 25000*day+s, 25000*day+s+1)
	}
	d := dice(82)
	for range 20000 {
		n, m := d.throw(api.MaxClock), d.throw(api.MaxClock)
		if n != m {
			inOrder(t, min(n, m), max(n, m))
		}
	}
}

func two(n int) string { return strconv.Itoa(n/10%10) + strconv.Itoa(n%10) }

// TestP8_3EveryDay has each day that two digits tell, of each month, of years of all kinds.
func TestP8_3EveryDay(t *testing.T) {
	for _, year := range []string{"0000", "1900", "1998", "1999", "2000", "2001", "2003", "2004", "2096", "2100", "2135", "2136", "2137", "2400", "9999"} {
		for _, month := range []string{"Jan", "Feb", "Mar", "Apr", "May", "Jun", "Jul", "Aug", "Sep", "Oct", "Nov", "Dec", "Xyz"} {
			for n := range 100 {
				rest := "-" + month + "-" + year + " 12:00:00 "
				for _, zone := range []string{"+0000", "-1400", "+1400"} {
					parsesAsTold(t, two(n)+rest+zone)
					parsesAsTold(t, " "+strconv.Itoa(n)+rest+zone)
				}
			}
		}
	}
}

func TestP8_3EveryTimeAndZone(t *testing.T) {
	for n := range 100 {
		parsesAsTold(t, " 5-Apr-2026 "+two(n)+":34:56 +0000")
		parsesAsTold(t, " 5-Apr-2026 12:"+two(n)+":56 +0000")
		parsesAsTold(t, " 5-Apr-2026 12:34:"+two(n)+" +0000")
		for m := range 100 {
			for _, sign := range []string{"+", "-"} {
				parsesAsTold(t, " 5-Apr-2026 12:34:56 "+sign+two(n)+two(m))
			}
		}
	}
}

// TestP8_3EndsOfTheClock has each zone at both ends of the clock.
func TestP8_3EndsOfTheClock(t *testing.T) {
	for minutes := range 15 * 60 {
		for _, sign := range []int{1, -1} {
			zone := time.FixedZone("", sign*minutes*60)
			for _, n := range []int{-2, -1, 0, 1, last - 1, last, last + 1, last + 2} {
				s := told(n).In(zone).Format("_2-Jan-2006 15:04:05 -0700")
				if parsesAsTold(t, s) != (n >= 0 && n <= last) {
					t.Errorf("the model takes %d, %q, for another", n, s)
				}
			}
		}
	}
}

// TestP8_3ChangedTexts puts each byte to each place of a text that is parsed: instead of the one there, ahead of it, and for none.
func TestP8_3ChangedTexts(t *testing.T) {
	for _, s := range []string{" 1-Jan-2000 00:00:00 +0000", "29-Feb-2004 23:59:59 -1459", "11-Nov-2111 11:11:11 +1111", " 7-Feb-2136 06:28:15 +0000", "31-Dec-1999 23:00:00 -0130"} {
		if !parsesAsTold(t, s) {
			t.Error(s)
		}
		for i := range s {
			parsesAsTold(t, s[:i])
			parsesAsTold(t, s[i+1:])
			parsesAsTold(t, s[:i]+s[i+1:])
			for c := range 256 {
				b := string([]byte{byte(c)})
				parsesAsTold(t, s[:i]+b+s[i+1:])
				parsesAsTold(t, s[:i]+b+s[i:])
				parsesAsTold(t, s+b)
			}
		}
	}
}

func TestP8_3Thrown(t *testing.T) {
	d := dice(83)
	months := []string{"Jan", "Feb", "Mar", "Apr", "May", "Jun", "Jul", "Aug", "Sep", "Oct", "Nov", "Dec"}
	good := 0
	for range 50000 {
		dayText := " " + strconv.Itoa(d.throw(10))
		if d.throw(3) > 0 {
			dayText = two(d.throw(34))
		}
		s := dayText + "-" + months[d.throw(12)] + "-" + strconv.Itoa(1998+d.throw(141)) + " " +
			two(d.throw(25)) + ":" + two(d.throw(61)) + ":" + two(d.throw(61)) + " " +
			[]string{"+", "-"}[d.throw(2)] + two(d.throw(16)) + two(d.throw(61))
		if parsesAsTold(t, s) {
			good++
		}
	}
	if good < 10000 {
		t.Error(good)
	}
}
