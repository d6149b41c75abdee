package stamp_test

import (
	"math"
	"strings"
	"testing"

	"estafette/api"
	"estafette/stamp"
)

const (
	minute = 60
	hour   = 3600
	day    = 86400
	last   = api.MaxClock - 1
)

// noMoments are numbers that are none.
var noMoments = []int{-1, -59, -day, api.MaxClock, api.MaxClock + 1, 2 * api.MaxClock, math.MinInt, math.MaxInt}

func of(t *testing.T, second int, want api.Time) {
	t.Helper()
	if got, e := stamp.Of(second); e != api.OK || got != want {
		t.Errorf("Of(%d): %v, %d; want %v", second, got, e, want)
	}
}

func second(t *testing.T, x api.Time, want int) {
	t.Helper()
	if got, e := stamp.Second(x); e != api.OK || got != want {
		t.Errorf("Second(%v): %d, %d; want %d", x, got, e, want)
	}
}

func noSecond(t *testing.T, x api.Time) {
	t.Helper()
	if got, e := stamp.Second(x); e != api.ErrDate || got != 0 {
		t.Errorf("Second(%v): %d, %d; want ErrDate", x, got, e)
	}
}

func TestP8_1OfAndSecond(t *testing.T) {
	for n, x := range map[int]api.Time{
		0:                {Year: 2000, Month: 1, Day: 1, Weekday: 6},
		1:                {Year: 2000, Month: 1, Day: 1, Second: 1, Weekday: 6},
		59:               {Year: 2000, Month: 1, Day: 1, Second: 59, Weekday: 6},
		60:               {Year: 2000, Month: 1, Day: 1, Minute: 1, Weekday: 6},
		3599:             {Year: 2000, Month: 1, Day: 1, Minute: 59, Second: 59, Weekday: 6},
		3600:             {Year: 2000, Month: 1, Day: 1, Hour: 1, Weekday: 6},
		day - 1:          {Year: 2000, Month: 1, Day: 1, Hour: 23, Minute: 59, Second: 59, Weekday: 6},
		day:              {Year: 2000, Month: 1, Day: 2, Weekday: 0},
		7 * day:          {Year: 2000, Month: 1, Day: 8, Weekday: 6},
		31*day - 1:       {Year: 2000, Month: 1, Day: 31, Hour: 23, Minute: 59, Second: 59, Weekday: 1},
		31 * day:         {Year: 2000, Month: 2, Day: 1, Weekday: 2},
		5097600 - 1:      {Year: 2000, Month: 2, Day: 28, Hour: 23, Minute: 59, Second: 59, Weekday: 1},
		5097600:          {Year: 2000, Month: 2, Day: 29, Weekday: 2},
		5097600 + day:    {Year: 2000, Month: 3, Day: 1, Weekday: 3},
		366*day - 1:      {Year: 2000, Month: 12, Day: 31, Hour: 23, Minute: 59, Second: 59, Weekday: 0},
		366 * day:        {Year: 2001, Month: 1, Day: 1, Weekday: 1},
		425*day - 1:      {Year: 2001, Month: 2, Day: 28, Hour: 23, Minute: 59, Second: 59, Weekday: 3},
		425 * day:        {Year: 2001, Month: 3, Day: 1, Weekday: 4},
		731 * day:        {Year: 2002, Month: 1, Day: 1, Weekday: 2},
		1461*day - 1:     {Year: 2003, Month: 12, Day: 31, Hour: 23, Minute: 59, Second: 59, Weekday: 3},
		1520 * day:       {Year: 2004, Month: 2, Day: 29, Weekday: 0},
		36525 * day:      {Year: 2100, Month: 1, Day: 1, Weekday: 5},
		36583 * day:      {Year: 2100, Month: 2, Day: 28, Weekday: 0},
		36584 * day:      {Year: 2100, Month: 3, Day: 1, Weekday: 1},
		36890 * day:      {Year: 2101, Month: 1, Day: 1, Weekday: 6},
		4294967295 - 1:   {Year: 2136, Month: 2, Day: 7, Hour: 6, Minute: 28, Second: 14, Weekday: 2},
		4294967295:       {Year: 2136, Month: 2, Day: 7, Hour: 6, Minute: 28, Second: 15, Weekday: 2},
		366*day + 3*hour: {Year: 2001, Month: 1, Day: 1, Hour: 3, Weekday: 1},
	} {
		of(t, n, x)
		second(t, x, n)
	}
}

func TestP8_1OfNoMoment(t *testing.T) {
	for _, n := range noMoments {
		if x, e := stamp.Of(n); e != api.ErrDate || x != (api.Time{}) {
			t.Errorf("Of(%d): %v, %d; want ErrDate", n, x, e)
		}
	}
}

func TestP8_1WeekdayIsIgnored(t *testing.T) {
	for _, w := range []int{0, 1, 5, 6, 7, 100, -1, math.MinInt, math.MaxInt} {
		second(t, api.Time{Year: 2000, Month: 2, Day: 29, Hour: 1, Weekday: w}, 5097600+hour)
		noSecond(t, api.Time{Year: 2001, Month: 2, Day: 29, Weekday: w})
	}
}

// TestP8_1NoDate changes a date that there is by one of its numbers.
func TestP8_1NoDate(t *testing.T) {
	const least, most = math.MinInt, math.MaxInt
	x := api.Time{Year: 2000, Month: 2, Day: 29, Hour: 12, Minute: 30, Second: 30, Weekday: 2}
	second(t, x, 5097600+12*hour+30*minute+30)
	for _, c := range []struct {
		place *int
		wrong []int
	}{
		{&x.Year, []int{1999, 2001, 2002, 2003, 2100, 2137, 2140, 2400, 1996, 1600, 400, 99, 4, 1, 0, -1, -4, -2000, 9999, 10000, 12000, 1 << 32, 1<<32 + 2000, 1<<40 + 2000, least, most}},
		{&x.Month, []int{0, -1, -2, -10, 13, 14, 24, 1 << 32, 1<<32 + 2, 1<<40 + 2, least, most}},
		{&x.Day, []int{0, -1, -29, 30, 31, 32, 60, 366, 1 << 32, 1<<32 + 1, 1<<40 + 1, least, most}},
		{&x.Hour, []int{-1, -12, 24, 25, 36, 48, 1 << 32, 1<<40 + 1, least, most}},
		{&x.Minute, []int{-1, -30, 60, 61, 90, 1 << 32, 1<<40 + 1, least, most}},
		{&x.Second, []int{-1, -30, 60, 61, 90, 1 << 32, 1<<40 + 1, least, most}},
	} {
		right := *c.place
		for _, n := range c.wrong {
			*c.place = n
			noSecond(t, x)
		}
		*c.place = right
	}
}

func TestP8_1EndsOfMonths(t *testing.T) {
	for _, year := range []int{2000, 2001, 2002, 2003, 2004, 2008, 2096, 2100, 2104, 2135} {
		lengths := []int{31, 28, 31, 30, 31, 30, 31, 31, 30, 31, 30, 31}
		if year%4 == 0 && year != 2100 {
			lengths[1] = 29
		}
		n, e := stamp.Second(api.Time{Year: year, Month: 1, Day: 1})
		if e != api.OK {
			t.Fatal(year, e)
		}
		for i, many := range lengths {
			noSecond(t, api.Time{Year: year, Month: i + 1})
			second(t, api.Time{Year: year, Month: i + 1, Day: 1}, n)
			n += many * day
			second(t, api.Time{Year: year, Month: i + 1, Day: many, Hour: 23, Minute: 59, Second: 59}, n-1)
			noSecond(t, api.Time{Year: year, Month: i + 1, Day: many + 1})
		}
		second(t, api.Time{Year: year + 1, Month: 1, Day: 1}, n)
	}
}

func TestP8_1EndsOfTheClock(t *testing.T) {
	for _, x := range []api.Time{
		{},
		{Year: 1999, Month: 12, Day: 31, Hour: 23, Minute: 59, Second: 59},
		{Year: 1999, Month: 1, Day: 1},
		{Year: 1998, Month: 12, Day: 31},
		{Year: 2136, Month: 2, Day: 7, Hour: 6, Minute: 28, Second: 16},
		{Year: 2136, Month: 2, Day: 7, Hour: 6, Minute: 29},
		{Year: 2136, Month: 2, Day: 7, Hour: 7},
		{Year: 2136, Month: 2, Day: 8},
		{Year: 2136, Month: 2, Day: 29},
		{Year: 2136, Month: 12, Day: 31, Hour: 23, Minute: 59, Second: 59},
		{Year: 2137, Month: 1, Day: 1},
	} {
		noSecond(t, x)
	}
	second(t, api.Time{Year: 2136, Month: 1, Day: 1}, 49673*day)
	second(t, api.Time{Year: 2136, Month: 2, Day: 7, Hour: 6, Minute: 28, Second: 15}, last)
}

func TestP8_2Header(t *testing.T) {
	for n, want := range map[int]string{
		0:                "Sat, 01 Jan 2000 00:00:00 +0000",
		1:                "Sat, 01 Jan 2000 00:00:01 +0000",
		12*hour + 34*60:  "Sat, 01 Jan 2000 12:34:00 +0000",
		day - 1:          "Sat, 01 Jan 2000 23:59:59 +0000",
		8*day + 9*hour:   "Sun, 09 Jan 2000 09:00:00 +0000",
		9*day + 10*hour:  "Mon, 10 Jan 2000 10:00:00 +0000",
		5097600 + 9*60:   "Tue, 29 Feb 2000 00:09:00 +0000",
		60*day + 10*60:   "Wed, 01 Mar 2000 00:10:00 +0000",
		36584*day + 3661: "Mon, 01 Mar 2100 01:01:01 +0000",
		4294967295:       "Tue, 07 Feb 2136 06:28:15 +0000",
	} {
		if got := stamp.Header(n); got != want {
			t.Errorf("Header(%d): %q, want %q", n, got, want)
		}
	}
}

func TestP8_2Internal(t *testing.T) {
	for n, want := range map[int]string{
		0:                " 1-Jan-2000 00:00:00 +0000",
		1:                " 1-Jan-2000 00:00:01 +0000",
		12*hour + 34*60:  " 1-Jan-2000 12:34:00 +0000",
		day - 1:          " 1-Jan-2000 23:59:59 +0000",
		8*day + 9*hour:   " 9-Jan-2000 09:00:00 +0000",
		9*day + 10*hour:  "10-Jan-2000 10:00:00 +0000",
		5097600 + 9*60:   "29-Feb-2000 00:09:00 +0000",
		60*day + 10*60:   " 1-Mar-2000 00:10:00 +0000",
		36584*day + 3661: " 1-Mar-2100 01:01:01 +0000",
		4294967295:       " 7-Feb-2136 06:28:15 +0000",
	} {
		if got := stamp.Internal(n); got != want {
			t.Errorf("Internal(%d): %q, want %q", n, got, want)
		}
	}
}

func TestP8_2Names(t *testing.T) {
	for i, month := range strings.Fields("Jan Feb Mar Apr May Jun Jul Aug Sep Oct Nov Dec") {
		n, e := stamp.Second(api.Time{Year: 2000, Month: i + 1, Day: 20})
		if e != api.OK {
			t.Fatal(month, e)
		}
		if got, want := stamp.Header(n)[4:], " 20 "+month+" 2000 00:00:00 +0000"; got != want {
			t.Errorf("Header(%d): %q, want %q", n, got, want)
		}
		if got, want := stamp.Internal(n), "20-"+month+"-2000 00:00:00 +0000"; got != want {
			t.Errorf("Internal(%d): %q, want %q", n, got, want)
		}
	}
	for i, weekday := range strings.Fields("Sun Mon Tue Wed Thu Fri Sat") {
		n := (i + 8) * day // the 9th is a Sunday
		if got := stamp.Header(n); !strings.HasPrefix(got, weekday+", ") {
			t.Errorf("Header(%d): %q, want %s", n, got, weekday)
		}
	}
}

func TestP8_2NoMoment(t *testing.T) {
	for _, n := range noMoments {
		if h, i := stamp.Header(n), stamp.Internal(n); h != "" || i != "" {
			t.Errorf("%d: Header %q, Internal %q", n, h, i)
		}
	}
}

func parse(t *testing.T, s string, want int) {
	t.Helper()
	if n, e := stamp.Parse(s); e != api.OK || n != want {
		t.Errorf("Parse(%q): %d, %d; want %d", s, n, e, want)
	}
}

func noParse(t *testing.T, s string) {
	t.Helper()
	if n, e := stamp.Parse(s); e != api.ErrDate || n != 0 {
		t.Errorf("Parse(%q): %d, %d; want ErrDate", s, n, e)
	}
}

func TestP8_3Parse(t *testing.T) {
	for s, want := range map[string]int{
		" 1-Jan-2000 00:00:00 +0000": 0,
		" 1-Jan-2000 00:00:00 -0000": 0,
		" 1-Jan-2000 00:00:01 +0000": 1,
		" 1-Jan-2000 01:02:03 +0000": hour + 2*minute + 3,
		" 1-Jan-2000 23:59:59 +0000": day - 1,
		" 9-Jan-2000 08:09:08 +0000": 8*day + 8*hour + 9*minute + 8,
		"10-Jan-2000 10:10:10 +0000": 9*day + 10*hour + 10*minute + 10,
		"31-Jan-2000 00:00:00 +0000": 30 * day,
		"29-Feb-2000 00:00:00 +0000": 5097600,
		" 1-Mar-2100 00:00:00 +0000": 36584 * day,
		" 7-Feb-2136 06:28:15 +0000": last,
	} {
		parse(t, s, want)
	}
}

func TestP8_3Zones(t *testing.T) {
	for s, want := range map[string]int{
		" 1-Jan-2000 01:00:00 +0100": 0,
		" 1-Jan-2000 00:00:00 -0100": hour,
		" 1-Jan-2000 12:00:00 +0530": 6*hour + 30*minute,
		" 1-Jan-2000 12:00:00 -0330": 15*hour + 30*minute,
		" 1-Jan-2000 12:00:00 +0001": 12*hour - minute,
		" 1-Jan-2000 12:00:00 -0059": 12*hour + 59*minute,
		" 1-Jan-2000 14:00:00 +1400": 0,
		" 1-Jan-2000 14:59:00 +1459": 0,
		" 1-Jan-2000 14:59:00 -1459": 29*hour + 58*minute,
		" 1-Mar-2000 00:30:00 +0100": 60*day - 30*minute,
		"29-Feb-2000 23:30:00 -0100": 60*day + 30*minute,
		"31-Dec-2000 23:00:00 -0200": 366*day + hour,
		" 1-Jan-2001 01:00:00 +0200": 366*day - hour,
		"10-Mar-2000 10:00:00 +1000": 69 * day,
		"31-Dec-1999 23:00:00 -0100": 0,
		"31-Dec-1999 23:00:00 -0130": 30 * minute,
		"31-Dec-1999 23:59:59 -0001": 59,
		"31-Dec-1999 10:00:00 -1400": 0,
		"31-Dec-1999 09:01:00 -1459": 0,
		" 7-Feb-2136 06:29:15 +0001": last,
		" 7-Feb-2136 20:28:15 +1400": last,
		" 7-Feb-2136 21:27:15 +1459": last,
		" 6-Feb-2136 15:29:15 -1459": last,
		" 7-Feb-2136 05:28:15 -0100": last,
	} {
		parse(t, s, want)
	}
}

func TestP8_3ZonesLeadOutOfTheClock(t *testing.T) {
	for _, s := range []string{
		" 1-Jan-2000 00:00:00 +0100",
		" 1-Jan-2000 00:00:00 +0001",
		" 1-Jan-2000 00:00:59 +0001",
		" 1-Jan-2000 13:59:59 +1400",
		" 1-Jan-2000 14:58:59 +1459",
		"31-Dec-1999 23:59:59 +0000",
		"31-Dec-1999 22:59:59 -0100",
		"31-Dec-1999 09:00:59 -1459",
		"31-Dec-1999 23:59:59 +1459",
		"30-Dec-1999 23:59:59 -1459",
		"31-Dec-1998 23:59:59 -1459",
		" 1-Jan-1999 00:00:00 +0000",
		" 7-Feb-2136 06:28:16 +0000",
		" 7-Feb-2136 06:28:15 -0001",
		" 7-Feb-2136 06:27:16 -0001",
		" 7-Feb-2136 20:28:16 +1400",
		" 7-Feb-2136 21:27:16 +1459",
		" 6-Feb-2136 15:29:16 -1459",
		"31-Dec-2136 23:59:59 +1459",
		" 1-Jan-2137 00:00:00 +1459",
		" 1-Jan-0000 00:00:00 +0000",
		"29-Feb-0000 00:00:00 +0000",
		" 1-Jan-0001 00:00:00 -0001",
		" 1-Jan-1970 00:00:00 +0000",
		"31-Dec-9999 23:59:59 +0000",
		"31-Dec-9999 23:59:59 -1459",
	} {
		noParse(t, s)
	}
}

func TestP8_3NoSuchDayOrTime(t *testing.T) {
	for _, s := range []string{
		"01-Jan-2000 00:00:00 +0000",
		"09-Jan-2000 00:00:00 +0000",
		"00-Jan-2000 00:00:00 +0000",
		" 0-Jan-2000 00:00:00 +0000",
		" 0-Feb-2000 00:00:00 +0000",
		"32-Jan-2000 00:00:00 +0000",
		"99-Jan-2000 00:00:00 +0000",
		"30-Feb-2000 00:00:00 +0000",
		"29-Feb-2001 00:00:00 +0000",
		"29-Feb-2100 00:00:00 +0000",
		"31-Feb-2004 00:00:00 +0000",
		"31-Apr-2000 00:00:00 +0000",
		"31-Jun-2000 00:00:00 +0000",
		"31-Sep-2000 00:00:00 +0000",
		"31-Nov-2000 00:00:00 +0000",
		" 2-Jan-2000 24:00:00 +0000",
		" 2-Jan-2000 25:00:00 +0000",
		" 2-Jan-2000 99:00:00 +0000",
		" 2-Jan-2000 00:60:00 +0000",
		" 2-Jan-2000 00:99:00 +0000",
		" 2-Jan-2000 00:00:60 +0000",
		" 2-Jan-2000 23:59:60 +0000",
		" 2-Jan-2000 00:00:99 +0000",
		" 3-Jan-2000 00:00:00 +1500",
		" 3-Jan-2000 00:00:00 -1500",
		" 3-Jan-2000 00:00:00 +2000",
		" 3-Jan-2000 00:00:00 -9900",
		" 3-Jan-2000 00:00:00 +0060",
		" 3-Jan-2000 00:00:00 -0099",
		" 3-Jan-2000 00:00:00 +1460",
	} {
		noParse(t, s)
	}
}

func TestP8_3NotTheForm(t *testing.T) {
	for _, s := range []string{
		"",
		" ",
		"0",
		"-",
		"1-Jan-2000 00:00:00 +0000",
		"1 -Jan-2000 00:00:00 +0000",
		"  -Jan-2000 00:00:00 +0000",
		"   1-Jan-2000 00:00:00 +0000",
		"  1-Jan-2000 00:00:00 +0000",
		" 10-Jan-2000 00:00:00 +0000",
		"010-Jan-2000 00:00:00 +0000",
		"+1-Jan-2000 00:00:00 +0000",
		"-1-Jan-2000 00:00:00 +0000",
		"\t1-Jan-2000 00:00:00 +0000",
		"1x-Jan-2000 00:00:00 +0000",
		" 1-jan-2000 00:00:00 +0000",
		" 1-JAN-2000 00:00:00 +0000",
		" 1-jAN-2000 00:00:00 +0000",
		" 1-Jam-2000 00:00:00 +0000",
		" 1-Ja-2000 00:00:00 +0000",
		" 1-January-2000 00:00:00 +0000",
		" 1-   -2000 00:00:00 +0000",
		" 1--2000 00:00:00 +0000",
		" 1-01-2000 00:00:00 +0000",
		" 1-001-2000 00:00:00 +0000",
		" 1-Sat-2000 00:00:00 +0000",
		" 1-nFe-2000 00:00:00 +0000",
		" 1 Jan 2000 00:00:00 +0000",
		" 1/Jan/2000 00:00:00 +0000",
		" 1-Jan-200 00:00:00 +0000",
		" 1-Jan-00 00:00:00 +0000",
		" 1-Jan-02000 00:00:00 +0000",
		" 1-Jan-20000 00:00:00 +0000",
		" 1-Jan- 200 00:00:00 +0000",
		" 1-Jan-+200 00:00:00 +0000",
		" 1-Jan-20x0 00:00:00 +0000",
		" 1-Jan-2000T00:00:00 +0000",
		" 1-Jan-2000  00:00:00 +0000",
		" 1-Jan-2000-00:00:00 +0000",
		" 1-Jan-2000 0:00:00 +0000",
		" 1-Jan-2000  0:00:00 +0000",
		" 1-Jan-2000 00:0:00 +0000",
		" 1-Jan-2000 00: 0:00 +0000",
		" 1-Jan-2000 00:00:0 +0000",
		" 1-Jan-2000 00:00: 0 +0000",
		" 1-Jan-2000 +1:00:00 +0000",
		" 1-Jan-2000 00:-0:00 +0000",
		" 1-Jan-2000 00:00 +0000",
		" 1-Jan-2000 00.00.00 +0000",
		" 1-Jan-2000 00:00:00.0 +0000",
		" 1-Jan-2000 00:00:00+0000",
		" 1-Jan-2000 00:00:00  0000",
		" 1-Jan-2000 00:00:00 0000 ",
		" 1-Jan-2000 00:00:00 00000",
		" 1-Jan-2000 00:00:00 ~0000",
		" 1-Jan-2000 00:00:00 +000",
		" 1-Jan-2000 00:00:00 +00",
		" 1-Jan-2000 00:00:00 +",
		" 1-Jan-2000 00:00:00 ",
		" 1-Jan-2000 00:00:00",
		" 1-Jan-2000 00:00:00 +00:00",
		" 1-Jan-2000 00:00:00 +00000",
		" 1-Jan-2000 00:00:00 ++000",
		" 1-Jan-2000 00:00:00 +-100",
		" 1-Jan-2000 00:00:00 +0-10",
		" 1-Jan-2000 00:00:00 GMT",
		" 1-Jan-2000 00:00:00 UTC  ",
		" 1-Jan-2000 00:00:00 +0000 ",
		" 1-Jan-2000 00:00:00 +0000\n",
		" 1-Jan-2000 00:00:00 +0000\r\n",
		" 1-Jan-2000 00:00:00 +0000\x00",
		"\" 1-Jan-2000 00:00:00 +0000\"",
		"Sat, 01 Jan 2000 00:00:00 +0000",
		"01 Jan 2000 00:00:00 +0000",
		"2000-01-01 00:00:00 +0000",
		"\uff11-Jan-2000 00:00:00 +0000",
		" 1-Jan-200\u0660 00:00:00 +0000",
		"\u00a01-Jan-2000 00:00:00 +0000",
		" 1\u2011Jan-2000 00:00:00 +0000",
		"\xff\xff\xff\xff\xff\xff\xff\xff\xff\xff\xff\xff\xff\xff\xff\xff\xff\xff\xff\xff\xff\xff\xff\xff\xff\xff",
		strings.Repeat("0", 26),
		strings.Repeat(" ", 26),
		strings.Repeat("9", 1000),
	} {
		noParse(t, s)
	}
}
