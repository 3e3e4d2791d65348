package split_test

import (
	"math"
	"math/big"
	"math/rand"
	"slices"
	"strings"
	"testing"
	"time"

	"chattel/api"
	"chattel/count"
	"chattel/date"
	"chattel/frac"
	"chattel/nat"
	"chattel/split"
	"chattel/whole"
)

const lastNumber = 3652059

var bases = []count.Basis{count.Thirty, count.Fixed, count.Actual}

// noBases are numbers that are no basis's; the lowest byte or half of some, taken for itself, would be one's.
var noBases = []count.Basis{count.Bases, count.Bases + 1, -1, -2, 9, 255, 256, 1 << 32, -1 << 32, 1<<32 + 1, math.MaxInt, math.MinInt, math.MinInt + 1}

// wrong are dates that aren't right.
var wrong = []api.Date{
	{}, day(0, 12, 31), day(-1, 1, 1), day(10000, 1, 1), day(math.MaxInt, 1, 1), day(math.MinInt, 1, 1),
	day(2024, 0, 1), day(2024, 13, 1), day(2024, -1, 1), day(2024, math.MaxInt, 1), day(2024, math.MinInt, 1),
	day(2024, 1, 0), day(2024, 1, 32), day(2024, 4, 31), day(2024, 2, 30), day(2023, 2, 29), day(1900, 2, 29),
	day(2024, 1, math.MaxInt), day(2024, 1, math.MinInt), day(9999, 12, 32), day(1, 1, 0), day(math.MaxInt, math.MaxInt, math.MaxInt), day(math.MinInt, math.MinInt, math.MinInt),
}

// day is a date.
func day(year, month, day int) api.Date { return api.Date{Year: year, Month: month, Day: day} }

// of is a text's date.
func of(t *testing.T, s string) api.Date {
	t.Helper()
	d, e := date.Parse(s)
	if e != api.OK {
		t.Fatalf("%q is no date: error %d", s, e)
	}
	return d
}

// all are the dates of a text, with blanks between.
func all(t *testing.T, s string) []api.Date {
	t.Helper()
	var dates []api.Date
	for _, word := range strings.Fields(s) {
		dates = append(dates, of(t, word))
	}
	return dates
}

// numbered is a number's date.
func numbered(t *testing.T, n int) api.Date {
	t.Helper()
	d, e := date.Of(n)
	if e != api.OK {
		t.Fatalf("%d is no date's number: error %d", n, e)
	}
	return d
}

// row is parts one behind the other, from date to date.
func row(dates ...api.Date) []split.Part {
	var parts []split.Part
	for i := 1; i < len(dates); i++ {
		parts = append(parts, split.Part{From: dates[i-1], To: dates[i]})
	}
	return parts
}

// paired are parts of a text, whose dates are each part's two, in a row.
func paired(t *testing.T, s string) []split.Part {
	t.Helper()
	var parts []split.Part
	dates := all(t, s)
	for i := 0; i < len(dates); i += 2 {
		parts = append(parts, split.Part{From: dates[i], To: dates[i+1]})
	}
	return parts
}

// wants checks the parts of a time against those that it should have.
func wants(t *testing.T, from, to api.Date, cuts []api.Date, want []split.Part) {
	t.Helper()
	handed := slices.Clone(cuts)
	got, e := split.Parts(from, to, cuts)
	if e != api.OK || !slices.Equal(got, want) {
		t.Errorf("P12.1: from %v to %v, %d cuts %v: %v, error %d, want %v", from, to, len(cuts), cuts[:min(len(cuts), 9)], got[:min(len(got), 9)], e, want[:min(len(want), 9)])
	}
	if !slices.Equal(handed, cuts) {
		t.Errorf("rule 4: from %v to %v: the cuts %v are now %v", from, to, handed, cuts)
	}
}

// refuses checks that Parts answers this error, and no part beside it.
func refuses(t *testing.T, from, to api.Date, cuts []api.Date, want api.Errno) {
	t.Helper()
	handed := slices.Clone(cuts)
	if parts, e := split.Parts(from, to, cuts); e != want || len(parts) > 0 {
		t.Errorf("P12.1: from %v to %v, cuts %v: %v, error %d, want error %d", from, to, cuts, parts, e, want)
	}
	if !slices.Equal(handed, cuts) {
		t.Errorf("rule 3: from %v to %v: the cuts %v are now %v", from, to, handed, cuts)
	}
}

func TestPartsByHand(t *testing.T) {
	for _, x := range []struct{ from, to, cuts, want string }{
		{"2024-01-01", "2024-04-01", "2024-02-10 2025-01-01", "2024-01-01 2024-02-10 2024-04-01"},
		{"2024-01-01", "2024-04-01", "", "2024-01-01 2024-04-01"},
		{"2024-01-01", "2024-04-01", "2024-02-10", "2024-01-01 2024-02-10 2024-04-01"},
		{"2024-01-01", "2024-04-01", "2024-01-02", "2024-01-01 2024-01-02 2024-04-01"},
		{"2024-01-01", "2024-04-01", "2024-03-31", "2024-01-01 2024-03-31 2024-04-01"},
		{"2024-01-01", "2024-04-01", "2024-01-01", "2024-01-01 2024-04-01"},
		{"2024-01-01", "2024-04-01", "2024-04-01", "2024-01-01 2024-04-01"},
		{"2024-01-01", "2024-04-01", "2023-12-31", "2024-01-01 2024-04-01"},
		{"2024-01-01", "2024-04-01", "2024-04-02", "2024-01-01 2024-04-01"},
		{"2024-01-01", "2024-04-01", "0001-01-01 9999-12-31", "2024-01-01 2024-04-01"},
		{"2024-01-01", "2024-04-01", "2025-02-10 2023-02-10 2024-05-01", "2024-01-01 2024-04-01"},
		{"2024-01-01", "2024-04-01", "2024-03-01 2024-02-01", "2024-01-01 2024-02-01 2024-03-01 2024-04-01"},
		{"2024-01-01", "2024-04-01", "2024-02-01 2024-02-01", "2024-01-01 2024-02-01 2024-04-01"},
		{"2024-01-01", "2024-04-01", "2024-02-01 2024-03-01 2024-02-01 2024-03-01 2024-02-01", "2024-01-01 2024-02-01 2024-03-01 2024-04-01"},
		{"2024-01-01", "2024-04-01", "2024-03-01 2024-01-01 2024-02-01 2024-03-01 2024-04-01", "2024-01-01 2024-02-01 2024-03-01 2024-04-01"},
		{"2024-01-01", "2024-04-01", "2024-01-01 2024-01-01 2024-04-01 2024-04-01", "2024-01-01 2024-04-01"},
		{"2024-01-01", "2024-04-01", "2024-02-11 2024-02-10 2024-02-12", "2024-01-01 2024-02-10 2024-02-11 2024-02-12 2024-04-01"},
		{"2024-02-28", "2024-03-01", "2024-02-29", "2024-02-28 2024-02-29 2024-03-01"},
		{"2023-02-28", "2023-03-01", "2024-02-29", "2023-02-28 2023-03-01"},
		{"2023-06-30", "2025-01-31", "2024-12-01 2024-01-31 2023-12-31", "2023-06-30 2023-12-31 2024-01-31 2024-12-01 2025-01-31"},
		{"0001-01-01", "9999-12-31", "9999-12-31 9999-12-30 0001-01-01 0001-01-02", "0001-01-01 0001-01-02 9999-12-30 9999-12-31"},
	} {
		wants(t, of(t, x.from), of(t, x.to), all(t, x.cuts), row(all(t, x.want)...))
	}
}

// TestPartsOfNoDays: from a date to itself, with and without cuts.
func TestPartsOfNoDays(t *testing.T) {
	for _, x := range []struct{ at, cuts string }{
		{"2024-01-01", ""}, {"2024-01-01", "2024-01-01"}, {"2024-01-01", "2024-01-01 2024-01-01"}, {"2024-01-01", "2023-12-31 2024-01-02"}, {"2024-01-01", "2024-01-02 2024-01-01 2023-12-31"},
		{"2024-02-29", "2024-02-28 2024-03-01"}, {"0001-01-01", ""}, {"0001-01-01", "0001-01-01 0001-01-02"}, {"9999-12-31", ""}, {"9999-12-31", "9999-12-30 9999-12-31"},
	} {
		wants(t, of(t, x.at), of(t, x.at), all(t, x.cuts), nil)
	}
}

// TestPartsOfOneDay: nothing is between, wherever the cuts are.
func TestPartsOfOneDay(t *testing.T) {
	for _, n := range []int{1, 2, 730178, 730179, 738945, 738944, lastNumber - 2, lastNumber - 1} {
		from, to := numbered(t, n), numbered(t, n+1)
		wants(t, from, to, nil, row(from, to))
		wants(t, from, to, []api.Date{from}, row(from, to))
		wants(t, from, to, []api.Date{to}, row(from, to))
		wants(t, from, to, []api.Date{to, from, to, from}, row(from, to))
		wants(t, from, to, []api.Date{day(1, 1, 1), day(9999, 12, 31)}, row(from, to))
	}
}

// TestPartsInAFewDays: every time, and every choice of cuts in a few days about the ends of months and years, forward, backward, and by turns.
func TestPartsInAFewDays(t *testing.T) {
	const days = 7
	for _, first := range []string{"2024-02-26", "2023-02-25", "2023-12-28", "2024-12-29", "2024-04-27", "0001-01-01", "9999-12-25"} {
		start, _ := date.Number(of(t, first))
		for choice := range 1 << days {
			var cuts []api.Date
			for k := range days {
				if choice>>k&1 == 1 {
					cuts = append(cuts, numbered(t, start+k))
				}
			}
			backward := slices.Clone(cuts)
			slices.Reverse(backward)
			for i := range days {
				for k := i; k < days; k++ {
					want := dayByDay(t, start+i, start+k, cuts)
					wants(t, numbered(t, start+i), numbered(t, start+k), cuts, want)
					wants(t, numbered(t, start+i), numbered(t, start+k), backward, want)
					wants(t, numbered(t, start+i), numbered(t, start+k), append(slices.Clone(cuts), backward...), want)
				}
			}
		}
	}
}

// dayByDay are the parts of a time from number to number, for which each day between is looked for among the cuts.
func dayByDay(t *testing.T, from, to int, cuts []api.Date) []split.Part {
	t.Helper()
	if from == to {
		return nil
	}
	dates := []api.Date{numbered(t, from)}
	for n := from + 1; n < to; n++ {
		if d := numbered(t, n); slices.Contains(cuts, d) {
			dates = append(dates, d)
		}
	}
	return row(append(dates, numbered(t, to))...)
}

// TestPartsOfManyCuts: each day of a hundred years, twice, one through the other, with those ahead and behind.
func TestPartsOfManyCuts(t *testing.T) {
	const start, days, beyond = 700000, 36525, 500
	var cuts, dates []api.Date
	for n := start - beyond; n <= start+days+beyond; n++ {
		d := numbered(t, n)
		cuts = append(cuts, d, d)
		if n >= start && n <= start+days {
			dates = append(dates, d)
		}
	}
	want := row(dates...)
	wants(t, numbered(t, start), numbered(t, start+days), cuts, want)
	slices.Reverse(cuts)
	wants(t, numbered(t, start), numbered(t, start+days), cuts, want)
	rand.New(rand.NewSource(12)).Shuffle(len(cuts), func(i, k int) { cuts[i], cuts[k] = cuts[k], cuts[i] })
	wants(t, numbered(t, start), numbered(t, start+days), cuts, want)
	wants(t, numbered(t, start+days), numbered(t, start+days), cuts, nil)
	refuses(t, numbered(t, start+days), numbered(t, start), cuts, api.ErrOrder)
	refuses(t, numbered(t, start), numbered(t, start+days), append(cuts, day(2023, 2, 29)), api.ErrDate)
	refuses(t, numbered(t, start+days), numbered(t, start), append(cuts, day(2023, 2, 29)), api.ErrDate)
}

// TestPartsOfWrongDates: from, to, both, or any of the cuts; the others in order or not, and within the time or not.
func TestPartsOfWrongDates(t *testing.T) {
	one, other := day(2023, 6, 15), day(2024, 6, 15)
	for i, d := range wrong {
		next := wrong[(i+1)%len(wrong)]
		for _, cuts := range [][]api.Date{nil, {one}, {day(2024, 1, 1)}, {other, one, day(2024, 1, 1)}, {d}, {next, one}} {
			for _, right := range []api.Date{one, other, day(1, 1, 1), day(9999, 12, 31)} {
				refuses(t, d, right, cuts, api.ErrDate)
				refuses(t, right, d, cuts, api.ErrDate)
			}
			refuses(t, d, d, cuts, api.ErrDate)
			refuses(t, d, next, cuts, api.ErrDate)
		}
		for _, way := range [][2]api.Date{{one, other}, {other, one}, {one, one}, {day(1, 1, 1), day(9999, 12, 31)}, {day(9999, 12, 31), day(1, 1, 1)}} {
			refuses(t, way[0], way[1], []api.Date{d}, api.ErrDate)
			refuses(t, way[0], way[1], []api.Date{d, d}, api.ErrDate)
			refuses(t, way[0], way[1], []api.Date{d, day(2024, 1, 1), day(2024, 2, 1)}, api.ErrDate)
			refuses(t, way[0], way[1], []api.Date{day(2024, 1, 1), d, day(2024, 2, 1)}, api.ErrDate)
			refuses(t, way[0], way[1], []api.Date{day(2024, 2, 1), day(2024, 1, 1), d}, api.ErrDate)
			refuses(t, way[0], way[1], []api.Date{day(1, 1, 1), day(9999, 12, 31), d}, api.ErrDate)
			refuses(t, way[0], way[1], []api.Date{way[0], way[1], d}, api.ErrDate)
		}
	}
}

// TestPartsOutOfOrder: also where a part of the second date is greater than the first one's.
func TestPartsOutOfOrder(t *testing.T) {
	for _, x := range []struct{ from, to string }{
		{"2024-01-02", "2024-01-01"}, {"2024-02-01", "2024-01-31"}, {"2025-01-01", "2024-12-31"}, {"2024-03-01", "2024-02-29"}, {"9999-12-31", "0001-01-01"}, {"0001-01-02", "0001-01-01"}, {"9999-12-31", "9999-12-30"},
	} {
		for _, cuts := range []string{"", x.from, x.to, x.to + " " + x.from, "2024-01-01 2024-01-15", "0001-01-01 9999-12-31"} {
			refuses(t, of(t, x.from), of(t, x.to), all(t, cuts), api.ErrOrder)
		}
	}
}

// TestPartsAreNewMemory: nothing that is done to one list is to be seen in another one.
func TestPartsAreNewMemory(t *testing.T) {
	from, to := of(t, "2024-01-01"), of(t, "2024-04-01")
	memory := all(t, "2024-03-01 2024-02-01 2024-03-15 2024-02-15")
	memory[2], memory[3] = wrong[0], of(t, "2024-01-15")
	cuts := memory[:2]
	want := row(all(t, "2024-01-01 2024-02-01 2024-03-01 2024-04-01")...)
	first, e := split.Parts(from, to, cuts)
	if e != api.OK || !slices.Equal(first, want) {
		t.Errorf("rule 4: with more behind the cuts' length: %v, error %d", first, e)
	}
	if !slices.Equal(memory, []api.Date{of(t, "2024-03-01"), of(t, "2024-02-01"), wrong[0], of(t, "2024-01-15")}) {
		t.Errorf("rule 4: the cuts' memory is now %v", memory)
	}
	second, _ := split.Parts(from, to, cuts)
	for i := range first {
		first[i] = split.Part{}
	}
	first = append(first, split.Part{From: to, To: to})
	clear(memory)
	if !slices.Equal(second, want) {
		t.Errorf("rule 4: one answer changes with another one, or with the cuts: %v", second)
	}
	if third, e := split.Parts(from, to, all(t, "2024-03-01 2024-02-01")); e != api.OK || !slices.Equal(third, want) {
		t.Errorf("rule 7: asked again: %v, error %d", third, e)
	}
}

// clock is a date as the library's.
func clock(d api.Date) time.Time {
	return time.Date(d.Year, time.Month(d.Month), d.Day, 0, 0, 0, 0, time.UTC)
}

// reckoned is a part's year fraction by a basis as the document's words say it, by the library's own arithmetic.
func reckoned(b count.Basis, p split.Part) *big.Rat {
	if b == count.Thirty {
		first, second := p.From.Day, p.To.Day
		if first == 31 {
			first = 30
		}
		if second == 31 && first == 30 {
			second = 30
		}
		return big.NewRat(int64(360*(p.To.Year-p.From.Year)+30*(p.To.Month-p.From.Month)+second-first), 360)
	}
	days := func(from, to time.Time) int64 { return (to.Unix() - from.Unix()) / 86400 }
	from, to := clock(p.From), clock(p.To)
	if b == count.Fixed {
		return big.NewRat(days(from, to), 365)
	}
	sum := new(big.Rat)
	for from.Before(to) {
		next := time.Date(from.Year()+1, 1, 1, 0, 0, 0, 0, time.UTC)
		end := next
		if to.Before(next) {
			end = to
		}
		sum.Add(sum, big.NewRat(days(from, end), int64(next.AddDate(0, 0, -1).YearDay())))
		from = end
	}
	return sum
}

// rat is a fraction as the library's.
func rat(t *testing.T, x frac.Frac) *big.Rat {
	t.Helper()
	r, ok := new(big.Rat).SetString(x.Print())
	if !ok {
		t.Fatalf("%q is no fraction's text", x.Print())
	}
	return r
}

// fraction is a number above by another one below.
func fraction(t *testing.T, num, den int) frac.Frac {
	t.Helper()
	x, e := frac.Of(whole.From(num), whole.From(den))
	if e != api.OK {
		t.Fatalf("%d/%d is no fraction: error %d", num, den, e)
	}
	return x
}

// sums checks the sum of parts' year fractions, and the weighted one if there are numbers, against the library's arithmetic.
func sums(t *testing.T, b count.Basis, parts []split.Part, by []frac.Frac) {
	t.Helper()
	handed, handedBy := slices.Clone(parts), texts(by)
	plain, weighted := new(big.Rat), new(big.Rat)
	for i, p := range parts {
		year := reckoned(b, p)
		plain.Add(plain, year)
		weighted.Add(weighted, year.Mul(year, rat(t, by[i])))
	}
	if x, e := split.Years(b, parts); e != api.OK || x.Print() != plain.RatString() {
		t.Errorf("P12.2: Years, %s, %v: %s, error %d, want %s", b.Word(), parts[:min(len(parts), 9)], x.Print(), e, plain.RatString())
	}
	if x, e := split.Weighted(b, parts, by); e != api.OK || x.Print() != weighted.RatString() {
		t.Errorf("P12.2: Weighted, %s, %v by %v: %s, error %d, want %s", b.Word(), parts[:min(len(parts), 9)], texts(by[:min(len(by), 9)]), x.Print(), e, weighted.RatString())
	}
	if !slices.Equal(handed, parts) || !slices.Equal(handedBy, texts(by)) {
		t.Errorf("rule 4: the parts %v by %v are now %v by %v", handed, handedBy, parts, texts(by))
	}
}

// texts of fractions.
func texts(list []frac.Frac) []string {
	var all []string
	for _, x := range list {
		all = append(all, x.Print())
	}
	return all
}

// refusesYears checks that Years, and Weighted with as many numbers, answer this error, and 0 beside it.
func refusesYears(t *testing.T, b count.Basis, parts []split.Part, want api.Errno) {
	t.Helper()
	if x, e := split.Years(b, parts); e != want || x.Print() != "0" {
		t.Errorf("P12.2: Years, %d, %v: %s, error %d, want error %d", b, parts, x.Print(), e, want)
	}
	refusesWeighted(t, b, parts, ones(len(parts)), want)
	refusesWeighted(t, b, parts, make([]frac.Frac, len(parts)), want)
}

// refusesWeighted checks that Weighted answers this error, and 0 beside it.
func refusesWeighted(t *testing.T, b count.Basis, parts []split.Part, by []frac.Frac, want api.Errno) {
	t.Helper()
	if x, e := split.Weighted(b, parts, by); e != want || x.Print() != "0" {
		t.Errorf("P12.2: Weighted, %d, %v by %v: %s, error %d, want error %d", b, parts, texts(by), x.Print(), e, want)
	}
}

// ones is 1, so many times.
func ones(n int) []frac.Frac { return slices.Repeat([]frac.Frac{frac.From(whole.From(1))}, n) }

func TestYearsByHand(t *testing.T) {
	for _, x := range []struct{ parts, thirty, fixed, actual string }{
		{"2024-01-31 2024-03-01", "31/360", "6/73", "5/61"},
		{"2024-01-01 2024-02-10 2024-02-10 2024-04-01", "1/4", "91/365", "91/366"},
		{"2023-07-01 2024-01-31 2024-01-31 2024-07-01", "361/360", "366/365", "66887/66795"},
		{"2024-05-29 2024-05-31 2024-05-31 2024-06-30", "4/45", "32/365", "16/183"},
		{"2024-01-01 2024-01-01", "0", "0", "0"},
		{"2024-01-01 2024-01-01 2024-01-01 2024-01-02 2024-01-02 2024-01-02", "1/360", "1/365", "1/366"},
		{"2024-05-30 2024-05-31 2024-05-30 2024-05-31", "0", "2/365", "1/183"},
		{"2023-01-01 2023-02-01 2024-01-01 2024-02-01", "1/6", "62/365", "22661/133590"},
		{"2024-01-01 2024-02-01 2023-01-01 2023-02-01", "1/6", "62/365", "22661/133590"},
		{"2024-02-10 2024-04-01 2024-01-01 2024-02-10", "1/4", "91/365", "91/366"},
		{"2024-01-01 2025-01-01 2024-01-01 2025-01-01 2023-01-01 2024-01-01", "3", "1097/365", "3"},
		{"0001-01-01 9999-12-31", "9999", "3652058/365", "3649634/365"},
		{"0001-01-01 9999-12-31 0001-01-01 9999-12-31", "19998", "7304116/365", "7299268/365"},
	} {
		parts := paired(t, x.parts)
		for i, want := range []string{x.thirty, x.fixed, x.actual} {
			if got, e := split.Years(bases[i], parts); e != api.OK || got.Print() != want {
				t.Errorf("P12.2: Years, %s, %s: %s, error %d, want %s", bases[i].Word(), x.parts, got.Print(), e, want)
			}
			sums(t, bases[i], parts, ones(len(parts)))
		}
	}
}

func TestWeightedByHand(t *testing.T) {
	two := paired(t, "2023-07-01 2024-01-31 2024-01-31 2024-07-01")
	for _, x := range []struct {
		by    []frac.Frac
		fixed string
	}{
		{[]frac.Frac{fraction(t, 1, 1), fraction(t, 1, 1)}, "366/365"},
		{[]frac.Frac{fraction(t, 2, 1), fraction(t, -1, 1)}, "276/365"},
		{[]frac.Frac{fraction(t, -1, 1), fraction(t, 2, 1)}, "18/73"},
		{[]frac.Frac{fraction(t, 0, 1), fraction(t, 1, 1)}, "152/365"},
		{[]frac.Frac{fraction(t, 1, 1), {}}, "214/365"},
		{[]frac.Frac{{}, {}}, "0"},
		{[]frac.Frac{fraction(t, 365, 214), fraction(t, 365, 152)}, "2"},
		{[]frac.Frac{fraction(t, 1, 214), fraction(t, -1, 152)}, "0"},
		{[]frac.Frac{fraction(t, -1, 2), fraction(t, -1, 3)}, "-473/1095"},
		{[]frac.Frac{fraction(t, 11, 200), fraction(t, 3, 50)}, "2089/36500"},
	} {
		if got, e := split.Weighted(count.Fixed, two, x.by); e != api.OK || got.Print() != x.fixed {
			t.Errorf("P12.2: Weighted by %v: %s, error %d, want %s", texts(x.by), got.Print(), e, x.fixed)
		}
		for _, b := range bases {
			sums(t, b, two, x.by)
		}
	}
}

// TestYearsOfNoParts: by any basis, as none is asked.
func TestYearsOfNoParts(t *testing.T) {
	for _, b := range append(slices.Clone(noBases), bases...) {
		for _, parts := range [][]split.Part{nil, {}, paired(t, "2024-01-02 2024-01-01")[:0]} {
			if x, e := split.Years(b, parts); e != api.OK || x.Print() != "0" {
				t.Errorf("P12.2: Years of no parts, %d: %s, error %d", b, x.Print(), e)
			}
			for _, by := range [][]frac.Frac{nil, {}, ones(2)[:0]} {
				if x, e := split.Weighted(b, parts, by); e != api.OK || x.Print() != "0" {
					t.Errorf("P12.2: Weighted of no parts, %d: %s, error %d", b, x.Print(), e)
				}
			}
			refusesWeighted(t, b, parts, ones(1), api.ErrArg)
		}
	}
}

// TestSumsOfMany: parts of any length, wherever they are, one over the other, by numbers of any sign.
func TestSumsOfMany(t *testing.T) {
	chance := rand.New(rand.NewSource(122))
	for size := range 40 {
		var parts []split.Part
		var by []frac.Frac
		for range size {
			n := 1 + chance.Intn(lastNumber-40000)
			parts = append(parts, split.Part{From: numbered(t, n), To: numbered(t, n+chance.Intn([]int{2, 40, 800, 40000}[chance.Intn(4)]))})
			by = append(by, fraction(t, chance.Intn(2001)-1000, 1+chance.Intn(300)))
		}
		for _, b := range bases {
			sums(t, b, parts, by)
		}
	}
	long := frac.From(whole.Of(nat.Of(make([]uint64, 60)...).Add(nat.Of(slices.Repeat([]uint64{math.MaxUint64}, 50)...)), true))
	tiny, _ := frac.From(whole.From(7)).Quo(long)
	for _, b := range bases {
		sums(t, b, paired(t, "2023-11-30 2024-03-31 2021-01-01 2021-01-02 2024-05-06 2025-07-08"), []frac.Frac{long, tiny, long.Mul(long)})
	}
}

// TestSumsOfVeryMany: a part a day, over a hundred years.
func TestSumsOfVeryMany(t *testing.T) {
	const start, days = 700000, 36525
	var parts []split.Part
	by := make([]frac.Frac, days)
	for k := range days {
		parts = append(parts, split.Part{From: numbered(t, start+k), To: numbered(t, start+k+1)})
		by[k] = fraction(t, k%19-9, 1+k%7)
	}
	for _, b := range bases {
		sums(t, b, parts, by)
	}
}

// TestSumsByNoBasis: ahead of what is wrong with the dates.
func TestSumsByNoBasis(t *testing.T) {
	right := paired(t, "2024-01-01 2024-02-01 2024-02-01 2024-03-01")
	for _, b := range noBases {
		refusesYears(t, b, right, api.ErrArg)
		refusesYears(t, b, right[:1], api.ErrArg)
		refusesYears(t, b, paired(t, "2024-01-01 2024-01-01"), api.ErrArg)
		refusesYears(t, b, paired(t, "2024-01-02 2024-01-01"), api.ErrArg)
		refusesYears(t, b, []split.Part{{From: wrong[1], To: right[0].To}}, api.ErrArg)
		refusesYears(t, b, []split.Part{{}}, api.ErrArg)
	}
}

// TestSumsOfWrongParts: wherever the first wrong part stands, and whatever stands behind it.
func TestSumsOfWrongParts(t *testing.T) {
	right := split.Part{From: day(2024, 1, 1), To: day(2024, 2, 1)}
	turned := split.Part{From: right.To, To: right.From}
	for _, b := range bases {
		refusesYears(t, b, []split.Part{turned}, api.ErrOrder)
		refusesYears(t, b, []split.Part{right, right, turned}, api.ErrOrder)
		refusesYears(t, b, []split.Part{turned, right, right}, api.ErrOrder)
		refusesYears(t, b, []split.Part{right, turned, right}, api.ErrOrder)
		// The turned part's days are less than none: all together there would be some left.
		refusesYears(t, b, []split.Part{turned, {From: day(2000, 1, 1), To: day(2020, 1, 1)}}, api.ErrOrder)
		for i, d := range wrong {
			for _, bad := range []split.Part{{From: d, To: right.To}, {From: right.From, To: d}, {From: d, To: d}, {From: d, To: wrong[(i+1)%len(wrong)]}} {
				refusesYears(t, b, []split.Part{bad}, api.ErrDate)
				refusesYears(t, b, []split.Part{right, right, bad}, api.ErrDate)
				refusesYears(t, b, []split.Part{right, bad, right}, api.ErrDate)
				refusesYears(t, b, []split.Part{right, bad, turned}, api.ErrDate)
				refusesYears(t, b, []split.Part{right, turned, bad}, api.ErrOrder)
			}
		}
	}
}

// TestWeightedByTooFewOrMany: ahead of all that is wrong with the parts.
func TestWeightedByTooFewOrMany(t *testing.T) {
	right := split.Part{From: day(2024, 1, 1), To: day(2024, 2, 1)}
	turned := split.Part{From: right.To, To: right.From}
	for _, b := range append(slices.Clone(noBases), bases...) {
		for _, parts := range [][]split.Part{{right}, {right, right}, {right, right, right}, {turned}, {{}}, {right, turned}, {{From: wrong[3], To: right.To}, right}, {right, {From: right.From, To: wrong[6]}, turned}} {
			for n := range len(parts) + 4 {
				if n != len(parts) {
					refusesWeighted(t, b, parts, ones(n), api.ErrArg)
					refusesWeighted(t, b, parts, make([]frac.Frac, n), api.ErrArg)
				}
			}
			// What lies behind the list's length doesn't count.
			refusesWeighted(t, b, parts, ones(len(parts))[:len(parts)-1], api.ErrArg)
			refusesWeighted(t, b, parts, ones(len(parts) + 2)[:len(parts)+1], api.ErrArg)
		}
	}
	if x, e := split.Weighted(count.Fixed, []split.Part{right, turned}[:1], ones(5)[:1]); e != api.OK || x.Print() != "31/365" {
		t.Errorf("rule 4: Weighted with more behind the lists' lengths: %s, error %d", x.Print(), e)
	}
	if x, e := split.Years(count.Fixed, []split.Part{right, turned}[:1]); e != api.OK || x.Print() != "31/365" {
		t.Errorf("rule 4: Years with more behind the list's length: %s, error %d", x.Print(), e)
	}
}

// TestCutsMakeNoDifference: with Fixed and Actual, wherever the time is cut, and with all numbers the same.
func TestCutsMakeNoDifference(t *testing.T) {
	chance := rand.New(rand.NewSource(123))
	for i := range 400 {
		reach := []int{31, 400, 2000, 400000, lastNumber}[i%5]
		n := 1 + chance.Intn(lastNumber-reach+1)
		length := chance.Intn(reach)
		var cuts []api.Date
		for range chance.Intn(30) {
			cuts = append(cuts, numbered(t, n+chance.Intn(reach)))
		}
		checkCuts(t, numbered(t, n), numbered(t, n+length), cuts, fraction(t, chance.Intn(4001)-2000, 1+chance.Intn(500)))
	}
	for _, way := range [][2]string{{"2023-12-20", "2024-03-10"}, {"2024-02-20", "2025-01-10"}, {"1899-12-30", "1900-03-02"}, {"2024-05-28", "2024-06-02"}} {
		from, to := of(t, way[0]), of(t, way[1])
		var cuts []api.Date
		for c := clock(from); !c.After(clock(to)); c = c.AddDate(0, 0, 1) {
			d := day(c.Year(), int(c.Month()), c.Day())
			cuts = append(cuts, d)
			checkCuts(t, from, to, []api.Date{d}, fraction(t, 17, 400))
		}
		checkCuts(t, from, to, cuts, fraction(t, -17, 400))
		checkCuts(t, from, to, nil, frac.Frac{})
	}
}

// checkCuts checks a time's parts against the whole of it, by the bases by which cuts make no difference; and, by every basis, with one number all over.
func checkCuts(t *testing.T, from, to api.Date, cuts []api.Date, number frac.Frac) {
	t.Helper()
	parts, e := split.Parts(from, to, cuts)
	if e != api.OK {
		t.Errorf("P12.1: from %v to %v: error %d", from, to, e)
	}
	same := slices.Repeat([]frac.Frac{number}, len(parts))
	for _, b := range bases {
		sum, e := split.Years(b, parts)
		if e != api.OK {
			t.Errorf("P12.2: %s, %v: error %d", b.Word(), parts, e)
		}
		if uncut, _ := count.Year(b, from, to); b != count.Thirty && sum.Cmp(uncut) != 0 {
			t.Errorf("P12.3: %s from %v to %v: %s, cut at %v: %s", b.Word(), from, to, uncut.Print(), cuts, sum.Print())
		}
		if weighted, e := split.Weighted(b, parts, same); e != api.OK || weighted.Cmp(sum.Mul(number)) != 0 {
			t.Errorf("P12.3: %s, %v, all by %s: %s, error %d, want %s", b.Word(), parts, number.Print(), weighted.Print(), e, sum.Mul(number).Print())
		}
	}
}
