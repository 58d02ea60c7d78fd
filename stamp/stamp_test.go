package stamp

import (
	"math"
	"regexp"
	"strconv"
	"strings"
	"testing"
	"time"
	"unsafe"
)

// The chapter's two forms.
var (
	ofDate = regexp.MustCompile(`\A([0-9]{4})-([0-9]{2})-([0-9]{2})\z`)
	ofTime = regexp.MustCompile(`\A([0-9]{4})-([0-9]{1,2})-([0-9]{1,2})(?:[Tt]|[ \t]+)([0-9]{1,2}):([0-9]{2}):([0-9]{2})(?:\.([0-9]*))?(?:[ \t]*(?:Z|([+-])([0-9]{1,2})(?::([0-9]{2}))?))?\z`)
)

// Texts of every form, at the edges of each.
var written = []string{"2001-01-01", "0000-02-29", "9999-12-31", "2001-1-1T0:00:00", "2001-12-14t21:59:43.10-05:00", "2001-12-14 21:59:43.10 -5", "2001-12-15 \t 2:59:43.10", "2001-12-15T02:59:43.1Z", "1900-2-28\t23:59:59. \t+23:59", "2000-02-28 23:59:59-0:01", "0000-01-01T00:00:00+0", "9999-12-31T23:59:59.9-00:00", "2001-1-01T12:00:00.007 Z", "2001-01-1 1:30:00+1"}

// numberOf reads what a form found; what it didn't find is 0.
func numberOf(s string) int {
	n, _ := strconv.Atoi(s)
	return n
}

// slowDays counts the days of a month that there is by the library.
func slowDays(y, m int) int {
	return time.Date(y, time.Month(m)+1, 0, 0, 0, 0, 0, time.UTC).Day()
}

// slowIs tells whether the library has that day. The form leaves no number below 0.
func slowIs(y, m, d int) bool {
	day := time.Date(y, time.Month(m), d, 0, 0, 0, 0, time.UTC)
	return day.Year() == y && int(day.Month()) == m && day.Day() == d
}

// slowOf reads s by the chapter's forms and the library's calendar.
func slowOf(s string) (string, bool) {
	if found := ofDate.FindStringSubmatch(s); found != nil {
		if !slowIs(numberOf(found[1]), numberOf(found[2]), numberOf(found[3])) {
			return "", false
		}
		return s, true
	}
	found := ofTime.FindStringSubmatch(s)
	if found == nil {
		return "", false
	}
	year, month, day := numberOf(found[1]), numberOf(found[2]), numberOf(found[3])
	hour, minute, second := numberOf(found[4]), numberOf(found[5]), numberOf(found[6])
	zoneHour, zoneMinute := numberOf(found[9]), numberOf(found[10])
	if !slowIs(year, month, day) || hour > 23 || minute > 59 || second > 59 || zoneHour > 23 || zoneMinute > 59 {
		return "", false
	}
	zone := time.Duration(zoneHour)*time.Hour + time.Duration(zoneMinute)*time.Minute
	if found[8] != "-" {
		zone = -zone
	}
	moment := time.Date(year, time.Month(month), day, hour, minute, second, 0, time.UTC).Add(zone)
	if moment.Year() < 0 || moment.Year() > 9999 {
		return "", false
	}
	places := strings.TrimRight("."+found[7], "0")
	return moment.Format("2006-01-02T15:04:05") + strings.TrimSuffix(places, ".") + "Z", true
}

// check holds both calls against the slow one, and the text against its own.
func check(t *testing.T, s string) {
	t.Helper()
	got, ok := Of(s)
	if want, is := slowOf(s); got != want || ok != is || Is(s) != is {
		t.Fatalf("P10.2: Of(%q) = %q, %v, Is %v, want %q, %v", s, got, ok, Is(s), want, is)
	}
	if again, is := Of(got); ok && (again != got || !is) {
		t.Fatalf("P10.3: Of(%q) = %q, %v, want itself", got, again, is)
	}
}

func TestDays(t *testing.T) {
	for m, want := range []int{0, 31, 28, 31, 30, 31, 30, 31, 31, 30, 31, 30, 31, 0} {
		if n := Days(2001, m); n != want {
			t.Errorf("P10.1: Days(2001, %d) = %d, want %d", m, n, want)
		}
	}
	for y := range 10_000 {
		for m := 1; m <= 12; m++ {
			if n, want := Days(y, m), slowDays(y, m); n != want {
				t.Fatalf("P10.1: Days(%d, %d) = %d, want %d", y, m, n, want)
			}
		}
	}
}

func TestLongYears(t *testing.T) {
	for y, want := range map[int]int{0: 29, 1: 28, 2: 28, 3: 28, 4: 29, 5: 28, 96: 29, 100: 28, 104: 29, 200: 28, 300: 28, 400: 29, 1700: 28, 1800: 28, 1900: 28, 1996: 29, 2000: 29, 2001: 28, 2004: 29, 2100: 28, 2400: 29, 9996: 29, 9999: 28, 10_000: 29, 10_100: 28, 400_000_000: 29, 400_000_100: 28, math.MaxInt: 28, math.MaxInt - 3: 29} {
		if n := Days(y, 2); n != want {
			t.Errorf("P10.1: Days(%d, 2) = %d, want %d", y, n, want)
		}
	}
}

func TestNoMonths(t *testing.T) {
	for _, y := range []int{-1, -4, -100, -400, -2000, math.MinInt, math.MinInt + 1} {
		for m := -13; m <= 26; m++ {
			if n := Days(y, m); n != 0 {
				t.Errorf("P10.1: Days(%d, %d) = %d", y, m, n)
			}
		}
	}
	for _, y := range []int{0, 1, 4, 1900, 2000, 9999, math.MaxInt} {
		for _, m := range []int{0, -1, -2, -12, 13, 14, 24, 1 + 1<<8, 2 + 1<<32, 1 << 31, math.MinInt, math.MaxInt} {
			if n := Days(y, m); n != 0 {
				t.Errorf("P10.1: Days(%d, %d) = %d", y, m, n)
			}
		}
	}
}

func TestMoments(t *testing.T) {
	for s, want := range map[string]string{
		"2001-01-01":                       "2001-01-01",
		"0000-01-01":                       "0000-01-01",
		"0000-02-29":                       "0000-02-29",
		"2000-02-29":                       "2000-02-29",
		"9999-12-31":                       "9999-12-31",
		"2001-1-1 0:00:00 +1":              "2000-12-31T23:00:00Z",
		"2001-12-14t21:59:43.10-05:00":     "2001-12-15T02:59:43.1Z",
		"2001-12-14 21:59:43.10 -5":        "2001-12-15T02:59:43.1Z",
		"2001-12-15 2:59:43.10":            "2001-12-15T02:59:43.1Z",
		"2001-12-15T02:59:43.1Z":           "2001-12-15T02:59:43.1Z",
		"2001-1-1T0:00:00":                 "2001-01-01T00:00:00Z",
		"2001-01-1T00:00:00":               "2001-01-01T00:00:00Z",
		"2001-1-01T09:08:07":               "2001-01-01T09:08:07Z",
		"2001-1-1 1:02:03":                 "2001-01-01T01:02:03Z",
		"2001-1-1\t1:02:03":                "2001-01-01T01:02:03Z",
		"2001-1-1 \t \t1:02:03":            "2001-01-01T01:02:03Z",
		"2001-1-1T1:02:03.":                "2001-01-01T01:02:03Z",
		"2001-1-1T1:02:03.0":               "2001-01-01T01:02:03Z",
		"2001-1-1T1:02:03.000Z":            "2001-01-01T01:02:03Z",
		"2001-1-1T1:02:03.Z":               "2001-01-01T01:02:03Z",
		"2001-1-1T1:02:03. Z":              "2001-01-01T01:02:03Z",
		"2001-1-1T1:02:03.+1":              "2001-01-01T00:02:03Z",
		"2001-1-1T1:02:03.-5":              "2001-01-01T06:02:03Z",
		"2001-1-1T1:02:03.5":               "2001-01-01T01:02:03.5Z",
		"2001-1-1T1:02:03.50":              "2001-01-01T01:02:03.5Z",
		"2001-1-1T1:02:03.05":              "2001-01-01T01:02:03.05Z",
		"2001-1-1T1:02:03.100100100":       "2001-01-01T01:02:03.1001001Z",
		"2001-1-1T1:02:03.000000000000001": "2001-01-01T01:02:03.000000000000001Z",
		"2001-1-1T1:02:03Z":                "2001-01-01T01:02:03Z",
		"2001-1-1T1:02:03 Z":               "2001-01-01T01:02:03Z",
		"2001-1-1T1:02:03 \t \tZ":          "2001-01-01T01:02:03Z",
		"2001-1-1T1:02:03\t-1":             "2001-01-01T02:02:03Z",
		"2001-1-1T1:02:03+0":               "2001-01-01T01:02:03Z",
		"2001-1-1T1:02:03-00:00":           "2001-01-01T01:02:03Z",
		"2001-1-1T1:02:03+1":               "2001-01-01T00:02:03Z",
		"2001-1-1T1:02:03+01":              "2001-01-01T00:02:03Z",
		"2001-1-1T1:02:03+1:02":            "2001-01-01T00:00:03Z",
		"2001-1-1T1:02:03+1:03":            "2000-12-31T23:59:03Z",
		"2001-1-1T1:02:03-0:58":            "2001-01-01T02:00:03Z",
		"2001-1-1T1:02:03+23:59":           "2000-12-31T01:03:03Z",
		"2001-1-1T1:02:03-23:59":           "2001-01-02T01:01:03Z",
		"2001-12-31T23:59:59-23:59":        "2002-01-01T23:58:59Z",
		"2001-03-01T0:00:00+0:01":          "2001-02-28T23:59:00Z",
		"2004-03-01T0:00:00+0:01":          "2004-02-29T23:59:00Z",
		"1900-03-01T0:00:00+0:01":          "1900-02-28T23:59:00Z",
		"2000-02-28T23:59:00-0:01":         "2000-02-29T00:00:00Z",
		"2001-02-28T23:59:00-0:01":         "2001-03-01T00:00:00Z",
		"2001-04-30T23:59:00-0:01":         "2001-05-01T00:00:00Z",
		"2001-05-01T00:00:00+0:01":         "2001-04-30T23:59:00Z",
		"0000-01-01T23:59:59.25+23:59":     "0000-01-01T00:00:59.25Z",
		"9999-12-31T00:00:00.99-23:59":     "9999-12-31T23:59:00.99Z",
		"0000-02-29T23:59:59-0:01":         "0000-03-01T00:00:59Z",
		"0001-01-01T0:00:00+1":             "0000-12-31T23:00:00Z",
		"9998-12-31T23:00:00-1":            "9999-01-01T00:00:00Z",
	} {
		if got, ok := Of(s); got != want || !ok || !Is(s) {
			t.Errorf("P10.2: Of(%q) = %q, %v, want %q", s, got, ok, want)
		}
		check(t, s)
	}
}

func TestNoMoments(t *testing.T) {
	for _, s := range []string{
		"", " ", "-", "T", "Z", "2", "2001", "2001-", "2001-01", "2001-01-", "2001--01", "-2001-01-01", "+2001-01-01", "--", "20010101", "2001/01/01", "2001-01/01", "2001.01.01",
		"2001-1-1", "2001-01-1", "2001-1-01", "201-01-01", "20010-01-01", "02001-01-01", "2001-001-01", "2001-01-001", "2001-1-001", "2001-01-011",
		"2001-00-01", "2001-13-01", "2001-99-01", "2001-01-00", "2001-01-32", "2001-04-31", "2001-02-29", "1900-02-29", "2000-02-30", "2001-01-99", "0000-00-00",
		"2001-01-01 ", "2001-01-01\t", " 2001-01-01", "2001-01-01\n", "2001-01-01Z", "2001-01-01+1", "2001-01-01 Z", "2001-01-01-01", "2001-01-01x", "2001- 01-01",
		"2001-01-01T", "2001-01-01t", "2001-01-01T1", "2001-01-01T1:", "2001-01-01T1:02", "2001-01-01T1:02:", "2001-01-01T1:02:3", "2001-01-01T1:2:03", "2001-01-01T:02:03", "2001-01-01T1::03", "2001-01-01T001:02:03", "2001-01-01T1:002:03", "2001-01-01T1:02:003", "2001-01-01T1.02.03", "2001-01-01T010203",
		"2001-01-01TT1:02:03", "2001-01-01 T1:02:03", "2001-01-01T 1:02:03", "2001-01-01T\t1:02:03", "2001-01-01z1:02:03", "2001-01-01_1:02:03", "2001-01-0101:02:03", "2001-01-01\n1:02:03", "2001-01-01\u00a01:02:03", "2001-01-01\r1:02:03", "2001-01-01\v1:02:03",
		"2001-01-01T24:00:00", "2001-01-01T99:00:00", "2001-01-01T00:60:00", "2001-01-01T00:00:60", "2001-01-01T00:00:99", "2001-01-01T23:59:60", "2001-01-01T-1:00:00", "2001-01-01T1:-2:03", "2001-01-01T+1:02:03",
		"2001-1-0T1:02:03", "2001-0-1T1:02:03", "2001-13-1T1:02:03", "2001-1-32T1:02:03", "2001-2-29T1:02:03", "2001-4-31 1:02:03", "2001-001-1T1:02:03", "2001-1-001T1:02:03", "201-1-1T1:02:03", "-1-1T1:02:03",
		"2001-1-1T1:02:03 ", "2001-1-1T1:02:03\t", "2001-1-1T1:02:03. ", "2001-1-1T1:02:03.5 ", "2001-1-1T1:02:03\n", "2001-1-1T1:02:03.5x", "2001-1-1T1:02:03.- 5", "2001-1-1T1:02:03 .5", "2001-1-1T1:02:03.1.2", "2001-1-1T1:02:03..", "2001-1-1T1:02:03,5", "2001-1-1T1:02:03.1_0", "2001-1-1T1:02:03.1e1", "2001-1-1T1:02.5",
		"2001-1-1T1:02:03z", "2001-1-1T1:02:03ZZ", "2001-1-1T1:02:03Z ", "2001-1-1T1:02:03Z+1", "2001-1-1T1:02:03Z1", "2001-1-1T1:02:03+", "2001-1-1T1:02:03-", "2001-1-1T1:02:03 +", "2001-1-1T1:02:03++1", "2001-1-1T1:02:03+-1", "2001-1-1T1:02:03+ 1", "2001-1-1T1:02:03+1 ", "2001-1-1T1:02:03+1Z", "2001-1-1T1:02:03+Z", "2001-1-1T1:02:03 1", "2001-1-1T1:02:03\u22121",
		"2001-1-1T1:02:03+001", "2001-1-1T1:02:03+0100", "2001-1-1T1:02:03+1:", "2001-1-1T1:02:03+1:0", "2001-1-1T1:02:03+1:000", "2001-1-1T1:02:03+:30", "2001-1-1T1:02:03+1:00:00", "2001-1-1T1:02:03+1.5", "2001-1-1T1:02:03+1 :00", "2001-1-1T1:02:03+1: 00", "2001-1-1T1:02:03+1:00 ",
		"2001-1-1T1:02:03+24", "2001-1-1T1:02:03-24", "2001-1-1T1:02:03+99", "2001-1-1T1:02:03+1:60", "2001-1-1T1:02:03-0:99", "2001-1-1T1:02:03+24:00",
		"0000-01-01T0:00:00+0:01", "0000-01-01T0:59:59.9+1", "0000-01-01T23:58:59+23:59", "0000-1-1 0:00:00 +23:59", "9999-12-31T23:59:00-0:01", "9999-12-31T23:00:00-1", "9999-12-31T00:01:00-23:59", "9999-12-31 23:59:59.5 -23:59",
		"2001-01-01\x00", "\x002001-01-01", "2001-01-0\x001", "2001-01-01T1:02:03\x00", "2001-01-01T1:02:03.\x00", "2001-01-01\xff", "200\xb1-01-01", "2001-01-01T1:02:03\xff",
		"\uff12001-01-01", "2001\uff0d01-01", "2001-01-0\u0661", "2001-01-01T1\uff1a02:03", "\uFEFF2001-01-01", "2001\u201001\u201001",
		"today", "null", "12:30:45", "1:30", "2001", "1.5", "0x2001-01-01", "2001-Jan-01", "2001-01-01T1:02:03 UTC", "2001-W01-1", "2001-001",
	} {
		if got, ok := Of(s); got != "" || ok || Is(s) {
			t.Errorf("P10.2: Of(%q) = %q, %v, Is %v", s, got, ok, Is(s))
		}
		check(t, s)
	}
}

func padTo(n, digits int) string {
	s := strconv.Itoa(n)
	return strings.Repeat("0", max(0, digits-len(s))) + s
}

// Every month and every day of years of either length, and of those at the edges, written with one digit and with two.
func TestEveryDay(t *testing.T) {
	for _, y := range []string{"0000", "0001", "0004", "0100", "1900", "1999", "2000", "2001", "2004", "9996", "9999"} {
		for m := range 100 {
			for d := range 100 {
				check(t, y+"-"+padTo(m, 2)+"-"+padTo(d, 2))
				if m < 14 && d < 34 {
					check(t, y+"-"+padTo(m, 1)+"-"+padTo(d, 1))
					check(t, y+"-"+padTo(m, 1)+"-"+padTo(d, 1)+"T0:00:00+0:01")
					check(t, y+"-"+padTo(m, 2)+"-"+padTo(d, 1)+" 23:59:00 -0:01")
					check(t, y+"-"+padTo(m, 1)+"-"+padTo(d, 2)+"\t12:00:00")
				}
			}
		}
	}
}

// Every number of one, two and three digits in the place of every part of a time.
func TestEveryNumberOfATime(t *testing.T) {
	for n := range 1000 {
		for digits := 1; digits <= 3; digits++ {
			s := padTo(n, digits)
			check(t, s+"-01-01")
			check(t, "2001-"+s+"-2T3:04:05")
			check(t, "2001-1-"+s+"T3:04:05")
			check(t, "2001-1-2T"+s+":04:05")
			check(t, "2001-1-2 3:"+s+":05 Z")
			check(t, "2001-1-2T3:04:"+s)
			check(t, "2001-1-2T3:04:05."+s)
			check(t, "2001-1-2T3:04:05+"+s)
			check(t, "2001-1-2T3:04:05.6 -"+s+":07")
			check(t, "2001-1-2T3:04:05-6:"+s)
		}
	}
	for y := range 10_000 {
		check(t, padTo(y, 4)+"-02-29")
		check(t, padTo(y, 4)+"-3-1T0:59:59+1")
		check(t, padTo(y, 4)+"-12-31T23:00:00-1")
	}
}

// Every zone, at the edges of a day, a month, a year, and of all years.
func TestEveryZone(t *testing.T) {
	for _, day := range []string{"2001-6-15", "2001-01-01", "2000-12-31", "2000-2-28", "2000-3-1", "2001-3-1", "0000-01-01", "9999-12-31"} {
		for _, clock := range []string{"0:00:00", "12:34:56.78", "23:59:59"} {
			for zone := range 24 * 60 {
				offset := padTo(zone/60, 1) + ":" + padTo(zone%60, 2)
				check(t, day+"T"+clock+"+"+offset)
				check(t, day+" "+clock+" -"+offset)
			}
		}
	}
}

// One moment, as it is told in every zone and in every way to write it, has one text.
func TestOneMomentHasOneText(t *testing.T) {
	for _, c := range []struct {
		moment time.Time
		want   string
	}{
		{time.Date(2001, 12, 15, 2, 59, 43, 0, time.UTC), "2001-12-15T02:59:43"},
		{time.Date(2000, 1, 1, 0, 0, 0, 0, time.UTC), "2000-01-01T00:00:00"},
		{time.Date(2004, 2, 29, 23, 59, 59, 0, time.UTC), "2004-02-29T23:59:59"},
		{time.Date(0, 1, 2, 0, 0, 0, 0, time.UTC), "0000-01-02T00:00:00"},
		{time.Date(9999, 12, 30, 23, 59, 59, 0, time.UTC), "9999-12-30T23:59:59"},
	} {
		for zone := -(24*60 - 1); zone < 24*60; zone++ {
			local := c.moment.In(time.FixedZone("", zone*60))
			for places, want := range map[string]string{"": "Z", ".": "Z", ".00": "Z", ".5": ".5Z", ".0500": ".05Z"} {
				want := c.want + want
				for _, s := range []string{local.Format("2006-01-02T15:04:05") + places + local.Format("-07:00"), local.Format("2006-1-2 \t15:04:05") + places + local.Format(" -07:00")} {
					if got, ok := Of(s); got != want || !ok {
						t.Fatalf("P10.3: Of(%q) = %q, %v, want %q", s, got, ok, want)
					}
				}
			}
		}
		if got, ok := Of(c.want + "Z"); got != c.want+"Z" || !ok {
			t.Errorf("P10.3: Of(%q) = %q, %v", c.want+"Z", got, ok)
		}
	}
}

// Moments that are a second, a digit, or a year apart have other texts; a date is no time.
func TestOtherMomentsHaveOtherTexts(t *testing.T) {
	seen := map[string]string{}
	for _, s := range []string{"2001-01-01", "2001-01-02", "2001-01-01T00:00:00", "2001-01-01T00:00:01", "2001-01-01T00:01:00", "2001-01-01T01:00:00", "2001-02-01T00:00:00", "2002-01-01T00:00:00", "2001-01-01T00:00:00.1", "2001-01-01T00:00:00.01", "2001-01-01T00:00:00.11", "2001-01-01T00:00:00.101", "2001-01-01T00:00:00+2", "2001-01-01T00:00:00-2", "2001-01-01T00:00:00+0:02", "2001-01-01T00:00:00-0:02", "2001-01-01T00:00:00+2:02"} {
		got, ok := Of(s)
		if other := seen[got]; other != "" || !ok {
			t.Errorf("P10.3: Of(%q) = %q, %v, as of %q", s, got, ok, other)
		}
		seen[got] = s
	}
}

// checkTexts checks every text of at most n of the signs behind the head.
func checkTexts(t *testing.T, head string, n int, signs string) {
	t.Helper()
	check(t, head)
	if n == 0 {
		return
	}
	for i := range len(signs) {
		checkTexts(t, head+signs[i:i+1], n-1, signs)
	}
}

// Every short text of the signs at which the machines turn, behind heads that lead into each state.
func TestShortTextsBehindHeads(t *testing.T) {
	for _, head := range []string{"", "200", "2001", "2001-", "2001-0", "2001-1", "2001-1-", "2001-01-", "2001-01-0", "2001-01-01", "2001-1-1", "2001-1-1 ", "2001-1-1T", "2001-1-1t1", "2001-1-1 1:", "2001-1-1T1:0", "2001-1-1T1:02", "2001-1-1T1:02:", "2001-1-1T1:02:0", "2001-1-1T1:02:03", "2001-1-1T1:02:03.", "2001-1-1T1:02:03.0", "2001-1-1T1:02:03 ", "2001-1-1T1:02:03+", "2001-1-1T1:02:03-1", "2001-1-1T1:02:03 +1:", "2001-1-1T1:02:03+1:0", "2001-1-1T1:02:03Z"} {
		checkTexts(t, head, 4, "016-+:.TZ \t")
	}
	for _, head := range []string{"2001", "2001-1", "2001-01-01", "2001-1-1T", "2001-1-1T1"} {
		checkTexts(t, head, 7, "1-:T ")
	}
}

// Every byte, alone, and in the place of, ahead of and behind each byte of texts that say a moment.
func TestEveryByte(t *testing.T) {
	for b := range 256 {
		sign := string([]byte{byte(b)})
		check(t, sign)
		for _, s := range written {
			for i := range len(s) {
				check(t, s[:i]+sign+s[i+1:])
				check(t, s[:i]+sign+s[i:])
			}
			check(t, s+sign)
			check(t, s+sign+sign)
		}
	}
}

// Bytes are gone, or the text is cut off, or two are put together.
func TestCutTexts(t *testing.T) {
	for _, s := range written {
		if !Is(s) {
			t.Errorf("P10.2: Is(%q) = false", s)
		}
		for i := range len(s) {
			for j := i; j <= len(s); j++ {
				check(t, s[i:j])
				check(t, s[:i]+s[j:])
			}
		}
		for _, other := range written {
			check(t, s+other)
			check(t, s+" "+other)
		}
	}
}

// An answer is new memory, even where it is what was handed in.
func TestAnswersAreNew(t *testing.T) {
	for _, s := range []string{"2001-01-01", "2001-01-01T00:00:00Z", "2001-01-01T00:00:00.5Z", "2001-01-01T00:00:00." + strings.Repeat("7", 100) + "Z", "2001-1-1 0:00:00." + strings.Repeat("7", 100)} {
		got, ok := Of(s)
		if !ok {
			t.Errorf("P10.2: Of(%q) = %q, %v", s, got, ok)
		}
		for i := range len(s) {
			if unsafe.StringData(got) == unsafe.StringData(s[i:]) {
				t.Errorf("Of(%q) shares the argument's memory", s)
			}
		}
	}
}

// Long texts are read without the stack, and in time; no digit behind the point is lost.
func TestVeryLongTexts(t *testing.T) {
	const length = 1_000_000
	blanks, ones, noughts := strings.Repeat(" \t", length), strings.Repeat("1", length), strings.Repeat("0", length)
	for _, c := range []struct {
		s, want string
	}{
		{"2001-1-1" + blanks + "1:02:03", "2001-01-01T01:02:03Z"},
		{"2001-1-1T1:02:03" + blanks + "+1", "2001-01-01T00:02:03Z"},
		{"2001-1-1" + blanks + "1:02:03." + noughts + blanks + "Z", "2001-01-01T01:02:03Z"},
		{"2001-1-1T1:02:03." + ones, "2001-01-01T01:02:03." + ones + "Z"},
		{"2001-1-1T1:02:03." + noughts + "1" + noughts + "-1", "2001-01-01T02:02:03." + noughts + "1Z"},
		{"2001-1-1T1:02:03." + ones + noughts + ones + noughts, "2001-01-01T01:02:03." + ones + noughts + ones + "Z"},
		{"2001-1-1" + blanks, ""},
		{"2001-1-1T1:02:03" + blanks, ""},
		{"2001-1-1T1:02:03." + ones + "x", ""},
		{"2001-1-1T1:02:03+1" + blanks, ""},
		{blanks + "2001-01-01", ""},
		{ones + "-01-01", ""},
		{noughts + "2001-01-01", ""},
		{"2001-" + noughts + "1-01", ""},
		{"2001-01-" + noughts + "1", ""},
		{"2001-1-1T" + noughts + "1:02:03", ""},
		{"2001-1-1T1:02:" + noughts + "3", ""},
		{"2001-1-1T1:02:03+" + noughts + "1", ""},
		{"2001-1-1T1:02:03+1:" + noughts, ""},
	} {
		if got, ok := Of(c.s); got != c.want || ok != (c.want != "") || Is(c.s) != ok {
			t.Errorf("P10.2: Of of %d bytes: %d bytes, %v, want %d", len(c.s), len(got), ok, len(c.want))
		}
	}
}

func FuzzMoments(f *testing.F) {
	for _, s := range written {
		f.Add(s)
	}
	f.Add("2001-1-1")
	f.Add("0000-01-01T0:00:00+1")
	f.Fuzz(check)
}
