package count_test

import (
	"math"
	"math/big"
	"math/rand"
	"strings"
	"testing"
	"time"

	"chattel/api"
	"chattel/count"
	"chattel/date"
	"chattel/frac"
	"chattel/month"
)

const lastNumber = 3652059

// bases are all of them, with their words.
var bases = []struct {
	basis count.Basis
	word  string
}{{count.Thirty, "thirty"}, {count.Fixed, "fixed"}, {count.Actual, "actual"}}

// noBases are numbers that are no basis's; the lowest byte or half of some, taken for itself, would be one's.
var noBases = []count.Basis{count.Bases, count.Bases + 1, -1, -2, -3, 9, 255, 256, 1000, 1 << 32, -1 << 32, 1<<32 + 1, math.MaxInt, math.MaxInt - 1, math.MinInt, math.MinInt + 1}

// wrong are dates that aren't right.
var wrong = []api.Date{
	{}, day(0, 12, 31), day(0, 1, 1), day(-1, 1, 1), day(10000, 1, 1), day(math.MaxInt, 1, 1), day(math.MinInt, 1, 1),
	day(2024, 0, 1), day(2024, 13, 1), day(2024, -1, 1), day(2024, math.MaxInt, 1), day(2024, math.MinInt, 1),
	day(2024, 1, 0), day(2024, 1, 32), day(2024, 1, -1), day(2024, 4, 31), day(2024, 2, 30), day(2023, 2, 29), day(1900, 2, 29), day(2023, 2, 30),
	day(2024, 1, math.MaxInt), day(2024, 1, math.MinInt), day(9999, 12, 32), day(1, 1, 0), day(2024, 0, 0), day(math.MaxInt, math.MaxInt, math.MaxInt), day(math.MinInt, math.MinInt, math.MinInt),
}

// day is a date.
func day(year, month, day int) api.Date { return api.Date{Year: year, Month: month, Day: day} }

// of is a text's date.
func of(t *testing.T, s string) api.Date {
	t.Helper()
	d, e := date.Parse(s)
	if e != api.OK {
		t.Fatalf("%q is no date: error %d", s, e)
	}
	return d
}

// numbered is a number's date.
func numbered(t *testing.T, n int) api.Date {
	t.Helper()
	d, e := date.Of(n)
	if e != api.OK {
		t.Fatalf("%d is no date's number: error %d", n, e)
	}
	return d
}

// clock is a date as the library's.
func clock(d api.Date) time.Time {
	return time.Date(d.Year, time.Month(d.Month), d.Day, 0, 0, 0, 0, time.UTC)
}

// plain is the library's date as one of the program's.
func plain(c time.Time) api.Date { return day(c.Year(), int(c.Month()), c.Day()) }

// yearOf is how many days a year has, as the library tells it.
func yearOf(year int) int64 { return int64(time.Date(year, 12, 31, 0, 0, 0, 0, time.UTC).YearDay()) }

// between is how many days are between two dates, as the library tells it.
func between(a, b api.Date) int64 { return (clock(b).Unix() - clock(a).Unix()) / 86400 }

// reckoned is the year fraction by a basis as the document's words say it, by the library's own arithmetic.
func reckoned(b count.Basis, from, to api.Date) *big.Rat {
	switch b {
	case count.Thirty:
		first, second := from.Day, to.Day
		if first == 31 {
			first = 30
		}
		if second == 31 && first == 30 {
			second = 30
		}
		return big.NewRat(int64(360*(to.Year-from.Year)+30*(to.Month-from.Month)+second-first), 360)
	case count.Fixed:
		return big.NewRat(between(from, to), 365)
	}
	sum := new(big.Rat)
	for ; from.Year < to.Year; from = day(from.Year+1, 1, 1) {
		sum.Add(sum, big.NewRat(between(from, day(from.Year+1, 1, 1)), yearOf(from.Year)))
	}
	return sum.Add(sum, big.NewRat(between(from, to), yearOf(to.Year)))
}

// year is the year fraction, which must be one.
func year(t *testing.T, b count.Basis, from, to api.Date) frac.Frac {
	t.Helper()
	x, e := count.Year(b, from, to)
	if e != api.OK {
		t.Errorf("P11.2: %s from %v to %v: error %d", b.Word(), from, to, e)
	}
	return x
}

// wants checks the year fraction against its text in lowest terms.
func wants(t *testing.T, what string, b count.Basis, from, to api.Date, want string) {
	t.Helper()
	if got := year(t, b, from, to).Print(); got != want {
		t.Errorf("%s: %s from %v to %v: %s, want %s", what, b.Word(), from, to, got, want)
	}
}

// refused checks that Year answers this error, and 0 beside it.
func refused(t *testing.T, b count.Basis, from, to api.Date, want api.Errno) {
	t.Helper()
	if x, e := count.Year(b, from, to); e != want || x.Sign() != 0 || x.Print() != "0" {
		t.Errorf("P11.2: %d from %v to %v: %s, error %d, want error %d", b, from, to, x.Print(), e, want)
	}
}

func TestBasesAreNumbered(t *testing.T) {
	for i, x := range bases {
		if int(x.basis) != i {
			t.Errorf("layer 11's functions: %s is %d, want %d", x.word, x.basis, i)
		}
	}
	if int(count.Bases) != len(bases) {
		t.Errorf("layer 11's functions: Bases is %d, want %d", count.Bases, len(bases))
	}
}

func TestWord(t *testing.T) {
	for _, x := range bases {
		if got := x.basis.Word(); got != x.word {
			t.Errorf("P11.1: Word of %d: %q, want %q", x.basis, got, x.word)
		}
	}
	for _, b := range noBases {
		if got := b.Word(); got != "" {
			t.Errorf("P11.1: Word of %d: %q", b, got)
		}
	}
}

func TestOf(t *testing.T) {
	for _, x := range bases {
		if b, ok := count.Of(x.word); b != x.basis || !ok {
			t.Errorf("P11.1: Of %q: %d, %t", x.word, b, ok)
		}
	}
}

// TestOfOthers: a text that is nearly a word is none.
func TestOfOthers(t *testing.T) {
	others := []string{"", " ", "-", "\x00", "\xff\xfe", "0", "1", "2", "30", "30/360", "30-360", "act/365", "act/act", "Bases", "bases", "thirtyfixed", "thirty,fixed", "thirty fixed", "thirtý", "ﬁxed", "half-up", strings.Repeat("actual", 1<<16)}
	for _, x := range bases {
		w := x.word
		others = append(others, strings.ToUpper(w), strings.ToUpper(w[:1])+w[1:], " "+w, w+" ", " "+w+" ", "\t"+w, w+"\n", w+"\r\n", w+"\x00", "\x00"+w, w+"s", w+w, "z"+w, "`"+w+"`")
		for i := range w {
			others = append(others, w[:i], w[i+1:], w[:i]+"z"+w[i+1:], w[:i]+w[i+1:], w[:i]+w[i:i+1]+w[i:], w[:i]+strings.ToUpper(w[i:i+1])+w[i+1:], w[:i]+" "+w[i:], w[:i]+" "+w[i+1:], w[:i]+"\xff"+w[i+1:])
		}
	}
	for _, s := range others {
		if b, ok := count.Of(s); b != 0 || ok {
			t.Errorf("P11.1: Of %.50q: %d, %t", s, b, ok)
		}
	}
}

func TestYearByHand(t *testing.T) {
	for _, x := range []struct {
		from, to, thirty, fixed, actual string
	}{
		{"2024-01-31", "2024-03-01", "31/360", "6/73", "5/61"},
		{"2024-05-05", "2024-05-05", "0", "0", "0"},
		{"2024-02-29", "2024-02-29", "0", "0", "0"},
		{"2024-01-31", "2024-01-31", "0", "0", "0"},
		{"0001-01-01", "0001-01-01", "0", "0", "0"},
		{"9999-12-31", "9999-12-31", "0", "0", "0"},
		{"2023-05-10", "2023-05-11", "1/360", "1/365", "1/365"},
		{"2024-05-10", "2024-05-11", "1/360", "1/365", "1/366"},
		{"2023-05-10", "2023-05-25", "1/24", "3/73", "3/73"},
		{"2024-05-01", "2024-05-31", "1/12", "6/73", "5/61"},
		{"2024-05-29", "2024-05-31", "1/180", "2/365", "1/183"},
		{"2024-05-30", "2024-05-31", "0", "1/365", "1/366"},
		{"2024-05-31", "2024-06-01", "1/360", "1/365", "1/366"},
		{"2024-05-31", "2024-06-30", "1/12", "6/73", "5/61"},
		{"2024-05-30", "2024-06-30", "1/12", "31/365", "31/366"},
		{"2024-05-30", "2024-07-31", "1/6", "62/365", "31/183"},
		{"2024-05-31", "2024-07-31", "1/6", "61/365", "1/6"},
		{"2024-05-31", "2024-07-30", "1/6", "12/73", "10/61"},
		{"2024-05-29", "2024-07-31", "31/180", "63/365", "21/122"},
		{"2024-05-29", "2024-07-30", "61/360", "62/365", "31/183"},
		{"2024-05-28", "2024-05-31", "1/120", "3/365", "1/122"},
		{"2024-04-30", "2024-05-31", "1/12", "31/365", "31/366"},
		{"2024-04-30", "2024-05-30", "1/12", "6/73", "5/61"},
		{"2024-04-29", "2024-05-31", "4/45", "32/365", "16/183"},
		{"2023-02-28", "2023-03-01", "1/120", "1/365", "1/365"},
		{"2024-02-28", "2024-03-01", "1/120", "2/365", "1/183"},
		{"2024-02-28", "2024-02-29", "1/360", "1/365", "1/366"},
		{"2024-02-29", "2024-03-01", "1/180", "1/365", "1/366"},
		{"2023-02-28", "2023-03-28", "1/12", "28/365", "28/365"},
		{"2023-02-28", "2023-03-30", "4/45", "6/73", "6/73"},
		{"2023-02-28", "2023-03-31", "11/120", "31/365", "31/365"},
		{"2024-02-29", "2024-03-31", "4/45", "31/365", "31/366"},
		{"2024-02-29", "2024-03-29", "1/12", "29/365", "29/366"},
		{"2024-01-31", "2024-02-29", "29/360", "29/365", "29/366"},
		{"2023-01-31", "2023-02-28", "7/90", "28/365", "28/365"},
		{"2023-01-30", "2023-02-28", "7/90", "29/365", "29/365"},
		{"2024-01-30", "2024-02-29", "29/360", "6/73", "5/61"},
		{"2023-02-28", "2024-02-29", "361/360", "366/365", "133897/133590"},
		{"2024-02-29", "2025-02-28", "359/360", "1", "133283/133590"},
		{"2024-02-29", "2028-02-29", "4", "1461/365", "4"},
		{"1900-02-28", "1900-03-01", "1/120", "1/365", "1/365"},
		{"2000-02-28", "2000-03-01", "1/120", "2/365", "1/183"},
		{"2023-12-31", "2024-01-01", "1/360", "1/365", "1/365"},
		{"2024-12-31", "2025-01-01", "1/360", "1/365", "1/366"},
		{"2022-12-31", "2023-01-01", "1/360", "1/365", "1/365"},
		{"2023-12-30", "2024-01-31", "1/12", "32/365", "1947/22265"},
		{"2023-12-31", "2024-01-31", "1/12", "31/365", "1886/22265"},
		{"2023-12-29", "2024-01-31", "4/45", "33/365", "2008/22265"},
		{"2003-11-01", "2004-05-01", "1/2", "182/365", "66491/133590"},
		{"2004-11-01", "2005-05-01", "1/2", "181/365", "217/438"},
		{"2024-01-01", "2024-12-31", "1", "1", "365/366"},
		{"2023-01-01", "2023-12-31", "1", "364/365", "364/365"},
		{"2024-01-01", "2025-01-01", "1", "366/365", "1"},
		{"2023-01-01", "2024-01-01", "1", "1", "1"},
		{"2023-07-01", "2024-07-01", "1", "366/365", "66887/66795"},
		{"2024-07-01", "2025-07-01", "1", "1", "66703/66795"},
		{"2023-12-31", "2026-01-02", "361/180", "733/365", "732/365"},
		{"2000-01-01", "2100-01-01", "100", "7305/73", "100"},
		{"1900-01-01", "2000-01-01", "100", "36524/365", "100"},
		{"1999-06-15", "2024-09-30", "607/24", "9239/365", "225267/8906"},
		{"1600-03-15", "2400-03-15", "800", "292194/365", "800"},
		{"0001-01-01", "9999-12-31", "9999", "3652058/365", "3649634/365"},
		{"0001-12-31", "9999-01-01", "3598921/360", "730266/73", "3648906/365"},
		{"0004-06-30", "9996-06-30", "9992", "3649503/365", "9992"},
	} {
		from, to := of(t, x.from), of(t, x.to)
		wants(t, "P11.2", count.Thirty, from, to, x.thirty)
		wants(t, "P11.2", count.Fixed, from, to, x.fixed)
		wants(t, "P11.2", count.Actual, from, to, x.actual)
	}
}

// TestYearInAFewYears: dates of three years each, most of them where a month ends; among the years are leap years, and such as 4 divides and aren't any.
func TestYearInAFewYears(t *testing.T) {
	for _, first := range []int{1, 3, 1899, 1999, 2023, 2024, 2099, 9995, 9997} {
		var dates []api.Date
		for c := clock(day(first, 1, 1)); c.Year() < first+3; c = c.AddDate(0, 0, 1) {
			if c.Day() > 26 || c.Day() < 3 || c.Day() == 15 {
				dates = append(dates, plain(c))
			}
		}
		for i, from := range dates {
			for k, to := range dates[i:] {
				// Every pair with few dates between, and some of the others.
				if k > 30 && (i+k)%7 != 0 {
					continue
				}
				for _, x := range bases {
					wants(t, "P11.2", x.basis, from, to, reckoned(x.basis, from, to).RatString())
				}
			}
		}
	}
}

func TestYearOverManyYears(t *testing.T) {
	chance := rand.New(rand.NewSource(11))
	for range 150 {
		a, b := 1+chance.Intn(lastNumber), 1+chance.Intn(lastNumber)
		from, to := numbered(t, min(a, b)), numbered(t, max(a, b))
		for _, x := range bases {
			wants(t, "P11.2", x.basis, from, to, reckoned(x.basis, from, to).RatString())
		}
	}
}

// TestYearOfNoDays: from a date to itself, however long its year is.
func TestYearOfNoDays(t *testing.T) {
	for n := 1; n <= lastNumber; n += 997 {
		for _, x := range bases {
			wants(t, "P11.2", x.basis, numbered(t, n), numbered(t, n), "0")
		}
	}
	for m := 1; m <= 12; m++ {
		for d := 28; d <= date.Days(2024, m); d++ {
			for _, x := range bases {
				wants(t, "P11.2", x.basis, day(2024, m, d), day(2024, m, d), "0")
			}
		}
	}
}

func TestYearByNoBasis(t *testing.T) {
	first, final := day(1, 1, 1), day(9999, 12, 31)
	for _, b := range noBases {
		refused(t, b, first, final, api.ErrArg)
		refused(t, b, first, first, api.ErrArg)
		refused(t, b, final, first, api.ErrArg)
		for _, d := range wrong {
			refused(t, b, d, final, api.ErrArg)
			refused(t, b, first, d, api.ErrArg)
			refused(t, b, d, d, api.ErrArg)
		}
	}
}

// TestYearOfWrongDates: one of them or both, in order or not.
func TestYearOfWrongDates(t *testing.T) {
	for i, d := range wrong {
		for _, x := range bases {
			for _, right := range []string{"0001-01-01", "2023-02-28", "2024-02-29", "2024-06-30", "9999-12-31"} {
				refused(t, x.basis, d, of(t, right), api.ErrDate)
				refused(t, x.basis, of(t, right), d, api.ErrDate)
			}
			refused(t, x.basis, d, d, api.ErrDate)
			refused(t, x.basis, d, wrong[(i+1)%len(wrong)], api.ErrDate)
			refused(t, x.basis, wrong[(i+1)%len(wrong)], d, api.ErrDate)
		}
	}
}

// TestYearOutOfOrder: also where the bases see no day between, and where a part of the second date is greater than the first one's.
func TestYearOutOfOrder(t *testing.T) {
	for _, pair := range [][2]string{
		{"2024-01-02", "2024-01-01"}, {"2024-05-31", "2024-05-30"}, {"2024-02-01", "2024-01-31"}, {"2025-01-01", "2024-12-31"}, {"2024-03-01", "2024-02-29"}, {"2023-03-01", "2023-02-28"},
		{"2024-06-01", "2024-05-02"}, {"2024-06-01", "2023-12-31"}, {"2024-12-31", "2024-01-01"}, {"0001-01-02", "0001-01-01"}, {"9999-12-31", "9999-12-30"}, {"9999-12-31", "0001-01-01"},
	} {
		for _, x := range bases {
			refused(t, x.basis, of(t, pair[0]), of(t, pair[1]), api.ErrOrder)
		}
	}
}

func TestYearOfTwoParts(t *testing.T) {
	chance := rand.New(rand.NewSource(113))
	for i := range 4000 {
		// Times of some years at most by turns with those of any length.
		reach := []int{31, 400, 2000, lastNumber}[i%4]
		n := 1 + chance.Intn(lastNumber-reach+1)
		all := chance.Intn(reach)
		from, between, to := numbered(t, n), numbered(t, n+chance.Intn(all+1)), numbered(t, n+all)
		checkTwoParts(t, from, between, to)
	}
	for _, way := range [][2]string{{"2023-12-20", "2024-03-10"}, {"2024-02-20", "2025-01-10"}, {"1899-12-30", "1900-03-02"}, {"2024-05-28", "2024-06-02"}} {
		from, to := of(t, way[0]), of(t, way[1])
		for c := clock(from); !c.After(clock(to)); c = c.AddDate(0, 0, 1) {
			checkTwoParts(t, from, plain(c), to)
		}
	}
}

// checkTwoParts checks that a time has what its two parts have.
func checkTwoParts(t *testing.T, from, between, to api.Date) {
	t.Helper()
	for _, b := range []count.Basis{count.Fixed, count.Actual} {
		sum := year(t, b, from, between).Add(year(t, b, between, to))
		if all := year(t, b, from, to); all.Cmp(sum) != 0 {
			t.Errorf("P11.3: %s from %v to %v: %s, in parts at %v: %s", b.Word(), from, to, all.Print(), between, sum.Print())
		}
	}
}

func TestWholeYears(t *testing.T) {
	for y := 1; y < api.MaxYear; y++ {
		wants(t, "P11.3", count.Actual, day(y, 1, 1), day(y+1, 1, 1), "1")
	}
	for _, years := range []struct {
		from, to int
		want     string
	}{{1, 9999, "9998"}, {2023, 2025, "2"}, {1896, 1904, "8"}, {1996, 2004, "8"}, {1600, 2000, "400"}, {1999, 2000, "1"}, {2000, 2001, "1"}} {
		wants(t, "P11.3", count.Actual, day(years.from, 1, 1), day(years.to, 1, 1), years.want)
	}
}

func TestMonthsByThirty(t *testing.T) {
	for _, y := range []int{1, 4, 1899, 1900, 1999, 2000, 2023, 2024, 2025, 9998} {
		for m := 1; m <= 12; m++ {
			for d := 1; d <= 28; d++ {
				next, e := month.Add(day(y, m, d), 1)
				if e != api.OK {
					t.Fatalf("error %d", e)
				}
				wants(t, "P11.3", count.Thirty, day(y, m, d), next, "1/12")
			}
		}
	}
	for m := 1; m < 12; m++ {
		for d := 1; d <= 28; d++ {
			wants(t, "P11.3", count.Thirty, day(9999, m, d), day(9999, m+1, d), "1/12")
		}
	}
}
