package date_test

import (
	"cmp"
	"math"
	"math/rand"
	"regexp"
	"slices"
	"strconv"
	"strings"
	"testing"
	"time"

	"chattel/api"
	"chattel/date"
)

const (
	lastNumber = 3652059
	layout     = "2006-01-02"
)

// far are ints out of all bounds, and near them.
var far = []int{math.MinInt, math.MinInt + 1, math.MinInt32 - 1, math.MinInt32, -1 << 53, -3652059, -10000, -9999, -2000, -400, -100, -13, -12, -4, -1, math.MaxInt32, math.MaxInt32 + 1, 1 << 53, 1 << 62, math.MaxInt - 1, math.MaxInt}

// months are the days of a year's months, told without the package.
func months(year int) []int {
	february := 28
	if _, err := time.Parse(layout, four(year)+"-02-29"); err == nil {
		february = 29
	}
	return []int{31, february, 31, 30, 31, 30, 31, 31, 30, 31, 30, 31}
}

// four is a year's text.
func four(year int) string {
	return strings.Repeat("0", 4-len(strconv.Itoa(year))) + strconv.Itoa(year)
}

// day is a date.
func day(year, month, day int) api.Date { return api.Date{Year: year, Month: month, Day: day} }

// clock is a date as the library's.
func clock(d api.Date) time.Time {
	return time.Date(d.Year, time.Month(d.Month), d.Day, 0, 0, 0, 0, time.UTC)
}

// right: is there such a date? (As the library tells it: it takes no other day for it.)
func right(d api.Date) bool {
	year, month, day := clock(d).Date()
	return d == api.Date{Year: year, Month: int(month), Day: day} && year >= 1 && year <= 9999
}

// refused checks that every call that asks for a right date refuses this one, as no date.
func refused(t *testing.T, d api.Date) {
	t.Helper()
	if e := date.Check(d); e != api.ErrDate {
		t.Errorf("P9.1: Check of %v: error %d", d, e)
	}
	if n, e := date.Number(d); n != 0 || e != api.ErrDate {
		t.Errorf("P9.2: Number of %v: %d, error %d", d, n, e)
	}
	if w, e := date.Weekday(d); w != 0 || e != api.ErrDate {
		t.Errorf("P9.2: Weekday of %v: %d, error %d", d, w, e)
	}
	if s, e := date.Print(d); s != "" || e != api.ErrDate {
		t.Errorf("P9.3: Print of %v: %q, error %d", d, s, e)
	}
}

// told checks all that the package tells of a right date.
func told(t *testing.T, d api.Date, n, weekday int, text string) {
	t.Helper()
	if e := date.Check(d); e != api.OK {
		t.Errorf("P9.1: Check of %v: error %d", d, e)
	}
	if got, e := date.Number(d); got != n || e != api.OK {
		t.Errorf("P9.2: Number of %v: %d, error %d, want %d", d, got, e, n)
	}
	if got, e := date.Of(n); got != d || e != api.OK {
		t.Errorf("P9.2: Of(%d): %v, error %d, want %v", n, got, e, d)
	}
	if got, e := date.Weekday(d); got != weekday || e != api.OK {
		t.Errorf("P9.2: Weekday of %v: %d, error %d, want %d", d, got, e, weekday)
	}
	if got, e := date.Print(d); got != text || e != api.OK {
		t.Errorf("P9.3: Print of %v: %q, error %d, want %q", d, got, e, text)
	}
	if got, e := date.Parse(text); got != d || e != api.OK {
		t.Errorf("P9.3: Parse of %q: %v, error %d, want %v", text, got, e, d)
	}
}

// noText checks that a text is refused.
func noText(t *testing.T, s string, want api.Errno) {
	t.Helper()
	if d, e := date.Parse(s); d != (api.Date{}) || e != want {
		t.Errorf("P9.3: Parse of %.40q: %v, error %d, want none, error %d", s, d, e, want)
	}
}

func TestLeap(t *testing.T) {
	for year := 1; year <= 9999; year++ {
		if got, want := date.Leap(year), months(year)[1] == 29; got != want {
			t.Errorf("P9.1: Leap(%d): %t", year, got)
		}
	}
	for year, want := range map[int]bool{1: false, 3: false, 4: true, 8: true, 96: true, 100: false, 104: true, 200: false, 300: false, 400: true, 800: true, 1600: true, 1700: false, 1800: false, 1900: false, 2000: true, 2001: false, 2002: false, 2003: false, 2004: true, 2023: false, 2024: true, 2100: false, 2400: true, 9600: true, 9900: false, 9996: true, 9999: false} {
		if got := date.Leap(year); got != want {
			t.Errorf("P9.1: Leap(%d): %t", year, got)
		}
	}
	for _, year := range append([]int{0, 10000, 10004, 10400, 12000, 20000, 400000}, far...) {
		if date.Leap(year) {
			t.Errorf("P9.1: Leap(%d): true", year)
		}
	}
}

func TestDays(t *testing.T) {
	for year := 1; year <= 9999; year++ {
		for i, want := range months(year) {
			if got := date.Days(year, i+1); got != want {
				t.Errorf("P9.1: Days(%d, %d): %d, want %d", year, i+1, got, want)
			}
		}
		for _, month := range []int{math.MinInt, -12, -1, 0, 13, 14, math.MaxInt} {
			if got := date.Days(year, month); got != 0 {
				t.Errorf("P9.1: Days(%d, %d): %d", year, month, got)
			}
		}
	}
	for _, no := range append([]int{0, 10000, 12000}, far...) {
		for month := -1; month <= 14; month++ {
			if got := date.Days(no, month); got != 0 {
				t.Errorf("P9.1: Days(%d, %d): %d", no, month, got)
			}
		}
		for _, year := range append([]int{0, 1, 2000, 2023, 9999, 10000}, far...) {
			if got := date.Days(year, no); got != 0 {
				t.Errorf("P9.1: Days(%d, %d): %d", year, no, got)
			}
		}
	}
}

// TestEveryDate goes from the first date to the last one, and counts them.
func TestEveryDate(t *testing.T) {
	n := 0
	before := api.Date{}
	for year := 1; year <= 9999 && !t.Failed(); year++ {
		for i, days := range months(year) {
			for k := 1; k <= days; k++ {
				n++
				d := day(year, i+1, k)
				told(t, d, n, (n+6)%7, four(year)+"-"+four(i + 1)[2:]+"-"+four(k)[2:])
				if date.Cmp(before, d) != -1 || date.Cmp(d, before) != 1 || date.Cmp(d, d) != 0 {
					t.Errorf("P9.2: Cmp of %v and %v: %d, %d, %d", before, d, date.Cmp(before, d), date.Cmp(d, before), date.Cmp(d, d))
				}
				before = d
			}
			refused(t, day(year, i+1, 0))
			refused(t, day(year, i+1, days+1))
		}
		refused(t, day(year, 0, 1))
		refused(t, day(year, 13, 1))
	}
	if n != lastNumber || before != day(9999, 12, 31) {
		t.Errorf("P9.2: %v is the date %d", before, n)
	}
}

func TestRightDates(t *testing.T) {
	for _, x := range []struct {
		d          api.Date
		n, weekday int
		text       string
	}{
		{day(1, 1, 1), 1, 0, "0001-01-01"},
		{day(1, 1, 2), 2, 1, "0001-01-02"},
		{day(1, 1, 3), 3, 2, "0001-01-03"},
		{day(1, 1, 4), 4, 3, "0001-01-04"},
		{day(1, 1, 5), 5, 4, "0001-01-05"},
		{day(1, 1, 6), 6, 5, "0001-01-06"},
		{day(1, 1, 7), 7, 6, "0001-01-07"},
		{day(1, 1, 8), 8, 0, "0001-01-08"},
		{day(1, 1, 31), 31, 2, "0001-01-31"},
		{day(1, 2, 1), 32, 3, "0001-02-01"},
		{day(1, 3, 1), 60, 3, "0001-03-01"},
		{day(1, 12, 31), 365, 0, "0001-12-31"},
		{day(2, 1, 1), 366, 1, "0002-01-01"},
		{day(4, 2, 29), 1155, 6, "0004-02-29"},
		{day(4, 12, 31), 1461, 4, "0004-12-31"},
		{day(5, 1, 1), 1462, 5, "0005-01-01"},
		{day(10, 10, 10), 3570, 6, "0010-10-10"},
		{day(99, 9, 9), 36046, 2, "0099-09-09"},
		{day(100, 12, 31), 36524, 4, "0100-12-31"},
		{day(101, 1, 1), 36525, 5, "0101-01-01"},
		{day(400, 12, 31), 146097, 6, "0400-12-31"},
		{day(401, 1, 1), 146098, 0, "0401-01-01"},
		{day(999, 11, 1), 364817, 4, "0999-11-01"},
		{day(1900, 2, 28), 693654, 2, "1900-02-28"},
		{day(1900, 3, 1), 693655, 3, "1900-03-01"},
		{day(1970, 1, 1), 719163, 3, "1970-01-01"},
		{day(2000, 2, 29), 730179, 1, "2000-02-29"},
		{day(2000, 3, 1), 730180, 2, "2000-03-01"},
		{day(2024, 2, 29), 738945, 3, "2024-02-29"},
		{day(9999, 12, 30), 3652058, 3, "9999-12-30"},
		{day(9999, 12, 31), 3652059, 4, "9999-12-31"},
	} {
		told(t, x.d, x.n, x.weekday, x.text)
	}
}

// TestWeekdays holds weekdays against the library's, of dates by chance, and those of one week against their names' order.
func TestWeekdays(t *testing.T) {
	chance := rand.New(rand.NewSource(9))
	numbers := []int{1, 2, 7, 8, 146097, 146098, lastNumber - 1, lastNumber}
	for range 5000 {
		numbers = append(numbers, 1+chance.Intn(lastNumber))
	}
	for _, n := range numbers {
		d, e := date.Of(n)
		w, f := date.Weekday(d)
		if want := (int(clock(d).Weekday()) + 6) % 7; w != want || e != api.OK || f != api.OK {
			t.Errorf("P9.2: Weekday of %v: %d, errors %d, %d, want %d", d, w, e, f, want)
		}
	}
	for i := range 7 {
		d := day(2024, 1, 1+i)
		if w, e := date.Weekday(d); w != i || e != api.OK {
			t.Errorf("P9.2: Weekday of %v: %d, error %d, want %d", d, w, e, i)
		}
	}
}

func TestWrongDates(t *testing.T) {
	refused(t, api.Date{})
	for _, d := range []api.Date{
		day(2023, 2, 29), day(2024, 2, 30), day(1900, 2, 29), day(2100, 2, 29), day(2000, 2, 30), day(9999, 2, 29), day(1, 2, 29),
		day(2024, 4, 31), day(2024, 6, 31), day(2024, 9, 31), day(2024, 11, 31), day(2024, 1, 32), day(2024, 12, 32), day(2024, 12, 60),
		day(0, 1, 1), day(0, 12, 31), day(0, 2, 29), day(10000, 1, 1), day(10000, 12, 31), day(10000, 2, 29), day(2024, 0, 1), day(2024, 13, 1),
		day(2024, 1, 0), day(2024, 2, 0), day(0, 0, 0), day(1, 0, 0), day(1, 1, 0), day(0, 1, 0), day(10000, 13, 32), day(2024, 0, 0), day(2024, 13, 0),
	} {
		refused(t, d)
	}
	for _, no := range far {
		refused(t, day(no, 1, 1))
		refused(t, day(2024, no, 1))
		refused(t, day(2024, 1, no))
		refused(t, day(2024, no, 0))
		for _, as := range far {
			refused(t, day(no, as, 1))
			refused(t, day(no, 1, as))
			refused(t, day(1, no, as))
			refused(t, day(no, as, no))
		}
	}
}

// TestChecks holds Check against the library, of ints in and near the bounds.
func TestChecks(t *testing.T) {
	for _, year := range []int{-4, -1, 0, 1, 4, 100, 400, 1899, 1900, 2000, 2023, 2024, 9996, 9999, 10000, 10004, 12000} {
		for month := -2; month <= 15; month++ {
			for k := -3; k <= 35; k++ {
				d := day(year, month, k)
				if !right(d) {
					refused(t, d)
				} else if e := date.Check(d); e != api.OK {
					t.Errorf("P9.1: Check of %v: error %d", d, e)
				}
			}
		}
	}
}

func TestNoNumbers(t *testing.T) {
	for _, n := range append([]int{0, -2, -365, lastNumber + 1, lastNumber + 2, lastNumber + 365, 2 * lastNumber, 10000000, math.MaxInt / 400, math.MaxInt / 365, math.MinInt / 400}, far...) {
		if d, e := date.Of(n); d != (api.Date{}) || e != api.ErrDate {
			t.Errorf("P9.2: Of(%d): %v, error %d", n, d, e)
		}
	}
}

func TestCmp(t *testing.T) {
	for _, x := range []struct {
		a, b api.Date
		want int
	}{
		{day(2024, 2, 3), day(2024, 2, 3), 0},
		{day(2024, 2, 3), day(2024, 2, 4), -1},
		{day(2024, 2, 3), day(2024, 3, 1), -1},
		{day(2024, 2, 3), day(2025, 1, 1), -1},
		{day(2024, 12, 31), day(2025, 1, 1), -1},
		{day(2024, 1, 31), day(2024, 2, 1), -1},
		{day(2024, 9, 9), day(2024, 10, 1), -1},
		{day(999, 12, 31), day(1000, 1, 1), -1},
		{day(1, 1, 1), day(9999, 12, 31), -1},
		{api.Date{}, api.Date{}, 0},
		{api.Date{}, day(1, 1, 1), -1},
		{day(-1, 99, 99), day(0, -99, -99), -1},
		{day(7, -1, 99), day(7, 0, -99), -1},
		{day(7, 13, 40), day(7, 13, 41), -1},
		{day(7, 13, 40), day(7, 13, 40), 0},
		{day(2023, 2, 30), day(2023, 3, 1), -1},
		{day(math.MinInt, math.MaxInt, math.MaxInt), day(math.MaxInt, math.MinInt, math.MinInt), -1},
		{day(0, math.MinInt, math.MaxInt), day(0, math.MaxInt, math.MinInt), -1},
		{day(0, 0, math.MinInt), day(0, 0, math.MaxInt), -1},
		{day(math.MinInt, 0, 0), day(1, 0, 0), -1},
		{day(-2, 0, 0), day(math.MaxInt, 0, 0), -1},
		{day(math.MinInt, math.MinInt, math.MinInt), day(math.MinInt, math.MinInt, math.MinInt), 0},
		{day(math.MaxInt, math.MaxInt, math.MaxInt), day(math.MaxInt, math.MaxInt, math.MaxInt), 0},
	} {
		if got, back := date.Cmp(x.a, x.b), date.Cmp(x.b, x.a); got != x.want || back != -x.want {
			t.Errorf("P9.2: Cmp of %v and %v: %d, the other way %d, want %d", x.a, x.b, got, back, x.want)
		}
	}
}

// TestCmpOfAnyInts holds Cmp against the order of lists, of few ints (so that parts are often the same) and of far ones.
func TestCmpOfAnyInts(t *testing.T) {
	chance := rand.New(rand.NewSource(9))
	ints := append([]int{0, 1, 2, 12, 13, 28, 31, 2024, 9999}, far...)
	for range 20000 {
		few := ints[chance.Intn(len(ints)-1):]
		few = few[:min(3, len(few))]
		pick := func() int { return few[chance.Intn(len(few))] }
		a, b := day(pick(), pick(), pick()), day(pick(), pick(), pick())
		want := slices.Compare([]int{a.Year, a.Month, a.Day}, []int{b.Year, b.Month, b.Day})
		if got := date.Cmp(a, b); got != want {
			t.Errorf("P9.2: Cmp of %v and %v: %d, want %d", a, b, got, want)
		}
	}
}

// TestCmpAsNumbers: of right dates Cmp tells what their numbers tell.
func TestCmpAsNumbers(t *testing.T) {
	chance := rand.New(rand.NewSource(99))
	for range 20000 {
		m := 1 + chance.Intn(lastNumber)
		n := min(max(1, m+chance.Intn(801)-400), lastNumber)
		a, e := date.Of(m)
		b, f := date.Of(n)
		if got := date.Cmp(a, b); got != cmp.Compare(m, n) || e != api.OK || f != api.OK {
			t.Errorf("P9.2: Cmp of %v and %v: %d, errors %d, %d", a, b, got, e, f)
		}
	}
}

func TestWrongShapes(t *testing.T) {
	for _, s := range []string{
		"", " ", "-", "--", "0", "2024", "2024-", "2024-02", "2024-02-", "2024-02-2", "2024-2-29", "2024-02-9", "024-02-29", "24-02-29", "2024-02-029", "2024-002-29", "02024-02-29", "2024-02-290", "2024-02-29-", "-2024-02-29", "+2024-02-29",
		" 2024-02-29", "2024-02-29 ", "2024-02-29\n", "2024-02-29\x00", "2024-02-29T00:00:00Z", "2024-02-292024-02-29", "20240229", "2024022900", "2024-0229-", "202-402-29", "20240-2-29", "2024-022-9", "2024-2-029", "2024--2-29", "2024-+2-29", "-024-02-29", "+024-02-29", "2024-02--9",
		"2024-02-+9", "2024-02- 9", "2024- 2-29", " 024-02-29", "2_24-02-29", "0x24-02-29", "2024-0x-29", "1e10-02-29", "20.4-02-29", "----------", "          ", "abcd-ef-gh", "2024/02/29", "2024.02.29", "29-02-2024", "29.02.2024", "2024:02:29", "2024-02/29", "2024–02–29", "2024−02-29",
		"0000-00-0", "0000-00-000", "9999-99-9", "２4-01-01", "２024-01-01", "2024-01-１", "٢024-01-1", "２０２４-０１-０１", "\xff024-02-29", "2024-02-2\xff", "2024\xe2\x80\x9302-2", "\x00\x00\x00\x00-\x00\x00-\x00\x00", strings.Repeat("2", 10), strings.Repeat("-", 10), strings.Repeat("2024-02-29", 100000),
	} {
		noText(t, s, api.ErrSyntax)
	}
}

// TestEachByte: each byte at each place of texts that are a date's, and of ones that have the shape alone.
func TestEachByte(t *testing.T) {
	for _, s := range []string{"2024-02-29", "0001-01-01", "9999-12-31", "1900-02-28", "0000-00-00", "9999-99-99"} {
		for at := range len(s) {
			for b := range 256 {
				tried(t, s[:at]+string([]byte{byte(b)})+s[at+1:])
			}
			noText(t, s[:at], api.ErrSyntax)
			noText(t, s[at+1:], api.ErrSyntax)
			noText(t, s[:at]+s[at+1:], api.ErrSyntax)
			noText(t, s[:at]+"0"+s[at:], api.ErrSyntax)
			noText(t, s[:at]+"-"+s[at:], api.ErrSyntax)
		}
	}
}

var dateShape = regexp.MustCompile(`\A[0-9]{4}-[0-9]{2}-[0-9]{2}\z`)

// tried holds Parse of a text against a pattern and the library.
func tried(t *testing.T, s string) {
	t.Helper()
	if !dateShape.MatchString(s) {
		noText(t, s, api.ErrSyntax)
		return
	}
	when, err := time.Parse(layout, s)
	if err != nil || when.Year() == 0 {
		noText(t, s, api.ErrDate)
		return
	}
	want := day(when.Year(), int(when.Month()), when.Day())
	if d, e := date.Parse(s); d != want || e != api.OK {
		t.Errorf("P9.3: Parse of %q: %v, error %d, want %v", s, d, e, want)
	}
	if text, e := date.Print(want); text != s || e != api.OK {
		t.Errorf("P9.3: Print of %v: %q, error %d, want %q", want, text, e, s)
	}
}

// TestEachMonthAndDay: each two digits for the month and for the day.
func TestEachMonthAndDay(t *testing.T) {
	for _, year := range []int{0, 1, 4, 100, 400, 1900, 2000, 2023, 2024, 9996, 9999} {
		for month := range 100 {
			for k := range 100 {
				tried(t, four(year)+"-"+four(month)[2:]+"-"+four(k)[2:])
			}
		}
	}
}

func TestTextsOfNoDates(t *testing.T) {
	for _, s := range []string{"0000-01-01", "0000-12-31", "0000-02-29", "2024-00-01", "2024-13-01", "2024-99-01", "2024-01-00", "2024-02-00", "2024-01-32", "2024-04-31", "2024-02-30", "2023-02-29", "1900-02-29", "2100-02-29", "9999-02-29", "9999-12-32", "9999-13-01", "0000-00-00", "0001-00-00", "9999-99-99", "2024-12-99"} {
		noText(t, s, api.ErrDate)
	}
}

// TestTextsByChance: texts of ten bytes or so, of the bytes that dates have and of others.
func TestTextsByChance(t *testing.T) {
	chance := rand.New(rand.NewSource(999))
	const some = "00112233456789--- ./é\xff"
	for range 20000 {
		s := []byte("2024-02-29")
		for range 1 + chance.Intn(4) {
			s[chance.Intn(len(s))] = some[chance.Intn(len(some))]
		}
		s = s[:len(s)-chance.Intn(8)/7]
		tried(t, string(s))
	}
}
