package month_test

import (
	"math"
	"math/rand"
	"slices"
	"testing"
	"time"

	"chattel/api"
	"chattel/date"
	"chattel/month"
)

const (
	lastNumber = 3652059
	allMonths  = 12 * api.MaxYear
)

// far are ints that lead out of the calendar from every date.
var far = []int{math.MinInt, math.MinInt + 1, math.MinInt + lastNumber, math.MinInt32 - 1, math.MinInt32, -1 << 53, -lastNumber, lastNumber, math.MaxInt32, math.MaxInt32 + 1, 1 << 32, 1 << 53, 1 << 60, 1 << 62, math.MaxInt - lastNumber, math.MaxInt - 31, math.MaxInt - 1, math.MaxInt}

// wrong are dates that aren't right.
var wrong = []api.Date{
	{}, day(0, 1, 1), day(-1, 1, 1), day(10000, 1, 1), day(math.MaxInt, 1, 1), day(math.MinInt, 1, 1),
	day(2024, 0, 1), day(2024, 0, 0), day(2024, 13, 1), day(2024, 13, 0), day(2024, -1, 1), day(2024, math.MaxInt, 1), day(2024, math.MinInt, 1),
	day(2024, 1, 0), day(2024, 1, 32), day(2024, 1, -1), day(2024, 4, 31), day(2024, 2, 30), day(2023, 2, 29), day(1900, 2, 29), day(2100, 2, 29),
	day(2024, 1, math.MaxInt), day(2024, 1, math.MinInt), day(9999, 12, 32), day(1, 1, 0), day(9999, 13, 1), day(0, 12, 31),
}

// day is a date.
func day(year, month, day int) api.Date { return api.Date{Year: year, Month: month, Day: day} }

// of is a text's date.
func of(t *testing.T, s string) api.Date {
	t.Helper()
	d, e := date.Parse(s)
	if e != api.OK {
		t.Fatalf("%q is no date: error %d", s, e)
	}
	return d
}

// clock is a date as the library's.
func clock(d api.Date) time.Time {
	return time.Date(d.Year, time.Month(d.Month), d.Day, 0, 0, 0, 0, time.UTC)
}

// plain is the library's date as one of the program's.
func plain(c time.Time) api.Date {
	return day(c.Year(), int(c.Month()), c.Day())
}

// last is how many days a month has, as the library tells it: the day ahead of the next month's first.
func last(year, month int) int {
	return time.Date(year, time.Month(month)+1, 0, 0, 0, 0, 0, time.UTC).Day()
}

// further is a date some months further, gone to year by year and month by month; false, if it is out of the calendar.
func further(d api.Date, months int) (api.Date, bool) {
	year, month := d.Year, d.Month
	for ; months >= 12; months -= 12 {
		year++
	}
	for ; months <= -12; months += 12 {
		year--
	}
	for ; months > 0; months-- {
		if month++; month > 12 {
			year, month = year+1, 1
		}
	}
	for ; months < 0; months++ {
		if month--; month < 1 {
			year, month = year-1, 12
		}
	}
	if year < 1 || year > 9999 {
		return api.Date{}, false
	}
	return day(year, month, min(d.Day, last(year, month))), true
}

// added checks Add against the date that is wanted; of none, against ErrDate.
func added(t *testing.T, d api.Date, months int, want api.Date) {
	t.Helper()
	wantError := api.OK
	if want == (api.Date{}) {
		wantError = api.ErrDate
	}
	if got, e := month.Add(d, months); got != want || e != wantError {
		t.Errorf("P10.1: Add(%v, %d): %v, error %d, want %v, error %d", d, months, got, e, want, wantError)
	}
}

// addedDays checks AddDays the same way.
func addedDays(t *testing.T, d api.Date, days int, want api.Date) {
	t.Helper()
	wantError := api.OK
	if want == (api.Date{}) {
		wantError = api.ErrDate
	}
	if got, e := month.AddDays(d, days); got != want || e != wantError {
		t.Errorf("P10.1: AddDays(%v, %d): %v, error %d, want %v, error %d", d, days, got, e, want, wantError)
	}
}

// refused checks that Series answers an error, and no list.
func refused(t *testing.T, d api.Date, step, n int, want api.Errno) {
	t.Helper()
	if l, e := month.Series(d, step, n); len(l) != 0 || e != want {
		t.Errorf("P10.2: Series(%v, %d, %d): %d dates, error %d, want error %d", d, step, n, len(l), e, want)
	}
}

func TestAdd(t *testing.T) {
	for _, x := range []struct {
		from   string
		months int
		want   string
	}{
		{"2024-01-31", 1, "2024-02-29"},
		{"2024-01-31", 2, "2024-03-31"},
		{"2024-01-31", 13, "2025-02-28"},
		{"2024-01-15", 1, "2024-02-15"},
		{"2024-01-15", 11, "2024-12-15"},
		{"2024-01-15", 12, "2025-01-15"},
		{"2024-12-01", 1, "2025-01-01"},
		{"2024-11-30", 1, "2024-12-30"},
		{"2024-11-30", 3, "2025-02-28"},
		{"2024-11-30", 2, "2025-01-30"},
		{"2023-01-31", 1, "2023-02-28"},
		{"2023-01-30", 1, "2023-02-28"},
		{"2023-01-29", 1, "2023-02-28"},
		{"2023-01-28", 1, "2023-02-28"},
		{"2024-01-30", 1, "2024-02-29"},
		{"2024-01-29", 1, "2024-02-29"},
		{"2024-01-28", 1, "2024-02-28"},
		{"1900-01-31", 1, "1900-02-28"},
		{"2000-01-31", 1, "2000-02-29"},
		{"2100-03-29", -1, "2100-02-28"},
		{"2024-03-31", 1, "2024-04-30"},
		{"2024-05-31", 1, "2024-06-30"},
		{"2024-07-31", 1, "2024-08-31"},
		{"2024-08-31", 1, "2024-09-30"},
		{"2024-02-29", 12, "2025-02-28"},
		{"2024-02-29", 48, "2028-02-29"},
		{"2024-02-29", -12, "2023-02-28"},
		{"2024-02-29", 1, "2024-03-29"},
		{"2023-02-28", 12, "2024-02-28"},
		{"2024-01-15", -1, "2023-12-15"},
		{"2024-01-31", -2, "2023-11-30"},
		{"2024-03-31", -1, "2024-02-29"},
		{"2024-03-31", -13, "2023-02-28"},
		{"2024-03-31", -3, "2023-12-31"},
		{"2024-12-31", -12, "2023-12-31"},
		{"2024-12-31", -24, "2022-12-31"},
		{"2024-05-31", 0, "2024-05-31"},
		{"2024-02-29", 0, "2024-02-29"},
		{"2024-01-31", 1200, "2124-01-31"},
		{"2024-01-31", -1200, "1924-01-31"},
	} {
		added(t, of(t, x.from), x.months, of(t, x.want))
	}
}

func TestAddAgainstSingleMonths(t *testing.T) {
	for _, year := range []int{1, 2, 4, 99, 100, 101, 400, 1899, 1900, 1999, 2000, 2023, 2024, 2100, 9996, 9998, 9999} {
		for m := 1; m <= 12; m++ {
			for _, d := range []int{1, 2, 27, 28, 29, 30, 31} {
				if d > last(year, m) {
					continue
				}
				for months := -60; months <= 60; months++ {
					want, _ := further(day(year, m, d), months)
					added(t, day(year, m, d), months, want)
				}
			}
		}
	}
}

func TestAddFar(t *testing.T) {
	chance := rand.New(rand.NewSource(10))
	for range 2000 {
		d, e := date.Of(1 + chance.Intn(lastNumber))
		if e != api.OK {
			t.Fatalf("error %d", e)
		}
		months := chance.Intn(2*allMonths) - allMonths
		want, _ := further(d, months)
		added(t, d, months, want)
	}
}

func TestAddAtTheEnds(t *testing.T) {
	first, final := of(t, "0001-01-01"), of(t, "9999-12-31")
	added(t, first, 0, first)
	added(t, final, 0, final)
	added(t, first, allMonths-1, of(t, "9999-12-01"))
	added(t, final, 1-allMonths, of(t, "0001-01-31"))
	added(t, of(t, "0001-01-31"), allMonths-1, final)
	for _, beyond := range []int{1, 2, 11, 12, 13, allMonths - 1, allMonths, allMonths + 1} {
		added(t, first, -beyond, api.Date{})
		added(t, of(t, "0001-01-31"), -beyond, api.Date{})
		added(t, final, beyond, api.Date{})
		added(t, of(t, "9999-12-01"), beyond, api.Date{})
	}
	for _, beyond := range []int{allMonths, allMonths + 1, allMonths + 11} {
		added(t, first, beyond, api.Date{})
		added(t, final, -beyond, api.Date{})
	}
	for m := 1; m <= 12; m++ {
		d := last(1, m)
		added(t, day(1, m, d), 1-m, day(1, 1, d))
		added(t, day(1, m, d), -m, api.Date{})
		d = last(9999, m)
		added(t, day(9999, m, d), 12-m, day(9999, 12, d))
		added(t, day(9999, m, d), 13-m, api.Date{})
	}
}

func TestAddRefuses(t *testing.T) {
	for _, d := range []string{"0001-01-01", "0001-02-28", "2024-01-31", "2024-02-29", "9999-12-31"} {
		for _, months := range far {
			added(t, of(t, d), months, api.Date{})
		}
	}
	for _, d := range wrong {
		for _, months := range append([]int{-12, -1, 0, 1, 12, allMonths, -allMonths}, far...) {
			added(t, d, months, api.Date{})
		}
	}
}

func TestAddDays(t *testing.T) {
	for _, x := range []struct {
		from string
		days int
		want string
	}{
		{"2024-02-28", 0, "2024-02-28"},
		{"2024-02-28", 1, "2024-02-29"},
		{"2024-02-28", 2, "2024-03-01"},
		{"2023-02-28", 1, "2023-03-01"},
		{"1900-02-28", 1, "1900-03-01"},
		{"2000-02-28", 1, "2000-02-29"},
		{"2024-03-01", -1, "2024-02-29"},
		{"2023-03-01", -1, "2023-02-28"},
		{"2024-04-30", 1, "2024-05-01"},
		{"2024-12-31", 1, "2025-01-01"},
		{"2024-01-01", -1, "2023-12-31"},
		{"2024-01-01", 366, "2025-01-01"},
		{"2023-01-01", 365, "2024-01-01"},
		{"2024-01-15", 10, "2024-01-25"},
		{"2024-01-15", -14, "2024-01-01"},
		{"2000-01-01", 146097, "2400-01-01"},
		{"0001-01-01", 3652058, "9999-12-31"},
		{"9999-12-31", -3652058, "0001-01-01"},
		{"0001-01-01", 0, "0001-01-01"},
		{"9999-12-31", 0, "9999-12-31"},
	} {
		addedDays(t, of(t, x.from), x.days, of(t, x.want))
	}
}

func TestAddDaysAgainstTheLibrary(t *testing.T) {
	chance := rand.New(rand.NewSource(11))
	for range 20000 {
		n, days := 1+chance.Intn(lastNumber), chance.Intn(2*lastNumber)-lastNumber
		d, e := date.Of(n)
		if e != api.OK {
			t.Fatalf("error %d", e)
		}
		want := plain(clock(d).AddDate(0, 0, days))
		if want.Year < 1 || want.Year > 9999 {
			want = api.Date{}
		}
		addedDays(t, d, days, want)
	}
	for d := of(t, "2023-01-01"); d.Year < 2025; d = plain(clock(d).AddDate(0, 0, 1)) {
		for days := -70; days <= 70; days++ {
			addedDays(t, d, days, plain(clock(d).AddDate(0, 0, days)))
		}
	}
}

func TestAddDaysRefuses(t *testing.T) {
	first, final := of(t, "0001-01-01"), of(t, "9999-12-31")
	for _, beyond := range []int{1, 2, 31, 366, lastNumber} {
		addedDays(t, first, -beyond, api.Date{})
		addedDays(t, final, beyond, api.Date{})
	}
	addedDays(t, first, lastNumber, api.Date{})
	addedDays(t, final, -lastNumber, api.Date{})
	addedDays(t, of(t, "0001-01-31"), -30, first)
	addedDays(t, of(t, "0001-01-31"), -31, api.Date{})
	addedDays(t, of(t, "9999-12-01"), 30, final)
	addedDays(t, of(t, "9999-12-01"), 31, api.Date{})
	for _, d := range []string{"0001-01-01", "2024-02-29", "9999-12-31"} {
		for _, days := range far {
			addedDays(t, of(t, d), days, api.Date{})
		}
	}
	for _, d := range wrong {
		for _, days := range append([]int{-366, -1, 0, 1, 366, 730000}, far...) {
			addedDays(t, d, days, api.Date{})
		}
	}
}

func TestBetween(t *testing.T) {
	for _, x := range []struct {
		a, b string
		want int
	}{
		{"2024-02-01", "2024-02-01", 0},
		{"2024-02-29", "2024-02-29", 0},
		{"2024-02-01", "2024-03-01", 29},
		{"2023-02-01", "2023-03-01", 28},
		{"2024-01-31", "2024-02-01", 1},
		{"2023-12-31", "2024-01-01", 1},
		{"2024-01-01", "2025-01-01", 366},
		{"2023-01-01", "2024-01-01", 365},
		{"2000-01-01", "2400-01-01", 146097},
		{"0001-01-01", "9999-12-31", 3652058},
	} {
		a, b := of(t, x.a), of(t, x.b)
		if n, e := month.Between(a, b); n != x.want || e != api.OK {
			t.Errorf("P10.1: Between(%s, %s): %d, error %d, want %d", x.a, x.b, n, e, x.want)
		}
		if n, e := month.Between(b, a); n != -x.want || e != api.OK {
			t.Errorf("P10.1: Between(%s, %s): %d, error %d, want %d", x.b, x.a, n, e, -x.want)
		}
	}
}

func TestBetweenAndAddDays(t *testing.T) {
	chance := rand.New(rand.NewSource(12))
	for range 20000 {
		a, _ := date.Of(1 + chance.Intn(lastNumber))
		b, _ := date.Of(1 + chance.Intn(lastNumber))
		n, e := month.Between(a, b)
		if want := (clock(b).Unix() - clock(a).Unix()) / 86400; int64(n) != want || e != api.OK {
			t.Errorf("P10.1: Between(%v, %v): %d, error %d, want %d", a, b, n, e, want)
		}
		addedDays(t, a, n, b)
	}
}

func TestBetweenRefuses(t *testing.T) {
	good := of(t, "2024-02-29")
	for i, d := range wrong {
		for _, pair := range [][2]api.Date{{d, good}, {good, d}, {d, d}, {d, wrong[(i+1)%len(wrong)]}} {
			if n, e := month.Between(pair[0], pair[1]); n != 0 || e != api.ErrDate {
				t.Errorf("P10.1: Between(%v, %v): %d, error %d", pair[0], pair[1], n, e)
			}
		}
	}
}

func TestEnd(t *testing.T) {
	for _, year := range []int{1, 4, 100, 400, 1900, 2000, 2023, 2024, 2100, 9996, 9999} {
		for m := 1; m <= 12; m++ {
			for d := -1; d <= 33; d++ {
				if got, want := month.End(day(year, m, d)), d == last(year, m); got != want {
					t.Errorf("P10.1: End(%v): %v", day(year, m, d), got)
				}
			}
		}
	}
	for _, d := range wrong {
		if month.End(d) {
			t.Errorf("P10.1: End(%v): true", d)
		}
	}
}

func TestSeries(t *testing.T) {
	for _, x := range []struct {
		from string
		step int
		want []string
	}{
		{"2024-01-31", 1, []string{"2024-02-29", "2024-03-31", "2024-04-30", "2024-05-31", "2024-06-30", "2024-07-31", "2024-08-31", "2024-09-30", "2024-10-31", "2024-11-30", "2024-12-31", "2025-01-31", "2025-02-28", "2025-03-31"}},
		{"2024-08-31", 3, []string{"2024-11-30", "2025-02-28", "2025-05-31", "2025-08-31"}},
		{"2024-02-29", 12, []string{"2025-02-28", "2026-02-28", "2027-02-28", "2028-02-29", "2029-02-28"}},
		{"2023-12-30", 2, []string{"2024-02-29", "2024-04-30", "2024-06-30"}},
		{"2024-01-29", 13, []string{"2025-02-28", "2026-03-29"}},
		{"2024-07-01", 6, []string{"2025-01-01", "2025-07-01"}},
		{"2024-07-15", 1200, []string{"2124-07-15", "2224-07-15"}},
		{"2024-07-15", 7, []string{"2025-02-15"}},
		{"9999-11-30", 1, []string{"9999-12-30"}},
		{"0001-01-31", 1, []string{"0001-02-28"}},
		{"0001-01-31", allMonths - 1, []string{"9999-12-31"}},
		{"2024-01-31", 1, nil},
		{"9999-12-31", 1, nil},
		{"9999-12-31", math.MaxInt, nil},
	} {
		var want []api.Date
		for _, s := range x.want {
			want = append(want, of(t, s))
		}
		if got, e := month.Series(of(t, x.from), x.step, len(want)); !slices.Equal(got, want) || e != api.OK {
			t.Errorf("P10.2: Series(%s, %d, %d): %v, error %d, want %v", x.from, x.step, len(want), got, e, want)
		}
	}
}

func TestSeriesIsOfSingleDates(t *testing.T) {
	for _, from := range []string{"0001-01-01", "1999-12-31", "2023-02-28", "2024-01-28", "2024-01-29", "2024-01-30", "2024-01-31", "2024-02-29", "2024-05-31", "2024-12-01"} {
		for _, step := range []int{1, 2, 3, 4, 6, 7, 12, 24, 61} {
			for _, n := range []int{0, 1, 2, 13, 120, api.MaxTerms - 1, api.MaxTerms} {
				checkSeries(t, of(t, from), step, n)
			}
		}
	}
}

// checkSeries checks that a series is right: its dates one by one, that they rise, and that no Day is above the first one's.
func checkSeries(t *testing.T, d api.Date, step, n int) {
	t.Helper()
	if _, ok := further(d, n*step); !ok {
		refused(t, d, step, n, api.ErrDate)
		return
	}
	dates, e := month.Series(d, step, n)
	if len(dates) != n || e != api.OK {
		t.Errorf("P10.2: Series(%v, %d, %d): %d dates, error %d", d, step, n, len(dates), e)
		return
	}
	ahead := d
	for i, got := range dates {
		if want, _ := further(d, (i+1)*step); got != want {
			t.Errorf("P10.2: Series(%v, %d, %d): date %d is %v, want %v", d, step, n, i, got, want)
		}
		if date.Cmp(ahead, got) >= 0 {
			t.Errorf("P10.3: Series(%v, %d, %d): date %d is %v, behind %v", d, step, n, i, got, ahead)
		}
		if got.Day > d.Day {
			t.Errorf("P10.3: Series(%v, %d, %d): date %d is %v", d, step, n, i, got)
		}
		ahead = got
	}
}

func TestSeriesWrongNumbers(t *testing.T) {
	dates := append([]api.Date{of(t, "2024-01-31"), of(t, "9999-12-31")}, wrong...)
	for _, d := range dates {
		for _, step := range []int{0, -1, -12, math.MinInt32, math.MinInt + 1, math.MinInt} {
			for _, n := range []int{0, 1, api.MaxTerms, api.MaxTerms + 1, -1, math.MaxInt, math.MinInt} {
				refused(t, d, step, n, api.ErrArg)
			}
		}
		for _, n := range []int{-1, -2, math.MinInt32, math.MinInt + 1, math.MinInt, api.MaxTerms + 1, math.MaxInt32, 1 << 62, math.MaxInt - 1, math.MaxInt} {
			for _, step := range []int{1, 12, math.MaxInt} {
				refused(t, d, step, n, api.ErrArg)
			}
		}
	}
}

func TestSeriesWrongDates(t *testing.T) {
	for _, d := range wrong {
		for _, step := range []int{1, 12, math.MaxInt} {
			for _, n := range []int{0, 1, api.MaxTerms} {
				refused(t, d, step, n, api.ErrDate)
			}
		}
	}
	refused(t, of(t, "9999-12-31"), 1, 1, api.ErrDate)
	refused(t, of(t, "9999-01-01"), 1, 12, api.ErrDate)
	refused(t, of(t, "9999-01-01"), 12, 1, api.ErrDate)
	refused(t, of(t, "9900-01-31"), 1, api.MaxTerms, api.ErrDate)
	refused(t, of(t, "2024-01-31"), 100, api.MaxTerms, api.ErrDate)
	refused(t, of(t, "0001-01-31"), allMonths, 1, api.ErrDate)
	refused(t, of(t, "0001-01-31"), allMonths-1, 2, api.ErrDate)
	// Steps of which some multiples, were they not held to the ints, would lead back into the calendar.
	for _, step := range []int{allMonths, math.MaxInt32, 1 << 32, 1 << 60, 1 << 61, 1 << 62, 1<<62 + 1, math.MaxInt / 2, math.MaxInt/2 + 2, math.MaxInt / 3, math.MaxInt - 1, math.MaxInt} {
		for _, n := range []int{1, 2, 3, 4, 5, 16, api.MaxTerms} {
			refused(t, of(t, "2024-01-31"), step, n, api.ErrDate)
			refused(t, of(t, "0001-01-01"), step, n, api.ErrDate)
		}
	}
}

func TestSeriesIsNewMemory(t *testing.T) {
	d := of(t, "2024-01-31")
	a, _ := month.Series(d, 1, 3)
	b, _ := month.Series(d, 1, 3)
	for i := range a {
		a[i] = api.Date{}
	}
	again, _ := month.Series(d, 1, 3)
	if want := []api.Date{day(2024, 2, 29), day(2024, 3, 31), day(2024, 4, 30)}; !slices.Equal(b, want) || !slices.Equal(again, want) {
		t.Errorf("P10.2: a series changed: %v, %v", b, again)
	}
}
