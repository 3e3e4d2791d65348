package terms_test

import (
	"math"
	"math/big"
	"math/rand"
	"strconv"
	"strings"
	"testing"
	"time"

	"chattel/api"
	"chattel/count"
	"chattel/dec"
	"chattel/frac"
	"chattel/round"
	"chattel/terms"
	"chattel/whole"
)

// kinds are all of them, with their words.
var kinds = []struct {
	kind int
	word string
}{{api.Annuity, "annuity"}, {api.Linear, "linear"}, {api.Bullet, "bullet"}}

// everies are all numbers of months that lead from one due date to the next one.
var everies = []int{1, 2, 3, 4, 6, 12}

// far are ints that number nothing; the lowest byte or half of some, taken for itself, would.
var far = []int{math.MinInt, math.MinInt + 1, math.MinInt + 2, -1 << 32, -1<<32 + 1, -256, -255, -12, -3, -2, -1, 256, 257, 258, 1000, 1 << 16, 1<<16 + 1, 1 << 32, 1<<32 + 1, 1<<32 + 12, 1 << 62, math.MaxInt - 1, math.MaxInt}

// greatest is the text of the greatest amount.
var greatest = "1" + strings.Repeat("0", api.MaxMoney)

// wrongMoney are texts that are no amount's, with their errors.
var wrongMoney = []struct {
	text string
	want api.Errno
}{
	{"", api.ErrNumber}, {"-", api.ErrNumber}, {"+", api.ErrNumber}, {"+5", api.ErrNumber}, {"--5", api.ErrNumber}, {"-0", api.ErrNumber}, {"-00", api.ErrNumber},
	{"1.5", api.ErrNumber}, {"1.", api.ErrNumber}, {".5", api.ErrNumber}, {"100.00", api.ErrNumber}, {"1/2", api.ErrNumber}, {"1,000", api.ErrNumber}, {"1e3", api.ErrNumber}, {"0x10", api.ErrNumber}, {"1_000", api.ErrNumber},
	{"00", api.ErrNumber}, {"01", api.ErrNumber}, {"007", api.ErrNumber}, {"-05", api.ErrNumber}, {" 5", api.ErrNumber}, {"5 ", api.ErrNumber}, {"5\n", api.ErrNumber}, {"- 5", api.ErrNumber}, {"x", api.ErrNumber}, {"5x", api.ErrNumber}, {"\x00", api.ErrNumber}, {"\xff", api.ErrNumber}, {"5\xff", api.ErrNumber}, {"٣", api.ErrNumber}, {"５", api.ErrNumber},
	{"-1", api.ErrMoney}, {"-2", api.ErrMoney}, {"-100", api.ErrMoney}, {"-18446744073709551616", api.ErrMoney}, {"-" + greatest, api.ErrMoney}, {"-" + greatest + "0", api.ErrMoney},
	{"1" + strings.Repeat("0", api.MaxMoney-1) + "1", api.ErrMoney}, {"2" + strings.Repeat("0", api.MaxMoney), api.ErrMoney}, {greatest + "0", api.ErrMoney}, {strings.Repeat("9", api.MaxMoney+1), api.ErrMoney},
	{strings.Repeat("9", api.MaxDigits), api.ErrMoney}, {"-" + strings.Repeat("9", api.MaxDigits), api.ErrMoney}, {strings.Repeat("0", api.MaxDigits), api.ErrNumber},
	{strings.Repeat("9", api.MaxDigits+1), api.ErrLong}, {"-" + strings.Repeat("9", api.MaxDigits+1), api.ErrLong}, {strings.Repeat("0", api.MaxDigits+1), api.ErrLong}, {strings.Repeat("x", api.MaxDigits+1), api.ErrLong}, {strings.Repeat("1", 1<<20), api.ErrLong},
}

// wrongRates are texts that are no rate's, with their errors.
var wrongRates = []struct {
	text string
	want api.Errno
}{
	{"", api.ErrNumber}, {"-", api.ErrNumber}, {"+4", api.ErrNumber}, {"--4", api.ErrNumber}, {"-0", api.ErrNumber}, {"-0.0", api.ErrNumber}, {"-0." + strings.Repeat("0", 13), api.ErrNumber},
	{".", api.ErrNumber}, {"4.", api.ErrNumber}, {".25", api.ErrNumber}, {"4..25", api.ErrNumber}, {"4.2.5", api.ErrNumber}, {"4,25", api.ErrNumber}, {"4.25%", api.ErrNumber}, {"17/4", api.ErrNumber}, {"4e0", api.ErrNumber}, {"x", api.ErrNumber},
	{"00", api.ErrNumber}, {"04", api.ErrNumber}, {"04.25", api.ErrNumber}, {"00.5", api.ErrNumber}, {"-04", api.ErrNumber}, {" 4", api.ErrNumber}, {"4 ", api.ErrNumber}, {"4.25\n", api.ErrNumber}, {"4.2\xff", api.ErrNumber}, {"4.\x00", api.ErrNumber}, {"٤", api.ErrNumber}, {"1001.", api.ErrNumber},
	{"0." + strings.Repeat("0", api.MaxScale+1), api.ErrScale}, {"4." + strings.Repeat("1", api.MaxScale+1), api.ErrScale}, {"-1." + strings.Repeat("1", api.MaxScale+1), api.ErrScale}, {"1001." + strings.Repeat("1", api.MaxScale+1), api.ErrScale},
	{strings.Repeat("9", api.MaxDigits+1), api.ErrLong}, {"4." + strings.Repeat("0", api.MaxDigits-1), api.ErrLong}, {strings.Repeat("x", api.MaxDigits+1), api.ErrLong}, {"4." + strings.Repeat("0", api.MaxDigits-2), api.ErrScale},
	{"-1", api.ErrRate}, {"-0.1", api.ErrRate}, {"-0.000000000001", api.ErrRate}, {"-4.25", api.ErrRate}, {"-1000", api.ErrRate}, {"-0.0000000000001", api.ErrRate},
	{"1001", api.ErrRate}, {"1000.1", api.ErrRate}, {"1000.01", api.ErrRate}, {"1000.000000000001", api.ErrRate}, {"10000", api.ErrRate}, {"100000.00", api.ErrRate}, {strings.Repeat("9", api.MaxDigits), api.ErrRate}, {"18446744073709551617", api.ErrRate},
	{"0." + strings.Repeat("0", 13), api.ErrRate}, {"4.0000000000000", api.ErrRate}, {"4.2500000000000", api.ErrRate}, {"0.0000000000001", api.ErrRate}, {"999.9999999999999", api.ErrRate}, {"1000." + strings.Repeat("0", 13), api.ErrRate}, {"4." + strings.Repeat("0", api.MaxScale), api.ErrRate}, {"4." + strings.Repeat("3", api.MaxScale), api.ErrRate},
}

// wrongDates are dates that aren't right.
var wrongDates = []api.Date{
	{}, day(0, 12, 31), day(0, 1, 1), day(-1, 1, 1), day(10000, 1, 1), day(math.MaxInt, 1, 1), day(math.MinInt, 1, 1),
	day(2024, 0, 1), day(2024, 13, 1), day(2024, -1, 1), day(2024, math.MaxInt, 1), day(2024, math.MinInt, 1),
	day(2024, 1, 0), day(2024, 1, 32), day(2024, 1, -1), day(2024, 4, 31), day(2024, 2, 30), day(2023, 2, 29), day(1900, 2, 29),
	day(2024, 1, math.MaxInt), day(2024, 1, math.MinInt), day(9999, 12, 32), day(1, 1, 0), day(math.MaxInt, math.MaxInt, math.MaxInt), day(math.MinInt, math.MinInt, math.MinInt),
}

// day is a date.
func day(year, month, day int) api.Date { return api.Date{Year: year, Month: month, Day: day} }

// good are terms that nothing is wrong with.
func good() api.Terms {
	return api.Terms{Principal: "25000000", Rate: "4.25", Kind: api.Annuity, Basis: int(count.Fixed), Mode: int(round.HalfUp), Start: day(2024, 1, 31), Every: 3, Count: 40}
}

// wants checks the error of terms.
func wants(t *testing.T, what string, x api.Terms, want api.Errno) {
	t.Helper()
	if e := terms.Check(x); e != want {
		t.Errorf("P14.3: %s: Check(%.200s): error %d, want %d", what, told(x), e, want)
	}
}

// told are terms in a line.
func told(x api.Terms) string {
	parts := []string{strconv.Quote(x.Principal), strconv.Quote(x.Rate)}
	for _, n := range []int{x.Kind, x.Basis, x.Mode, x.Start.Year, x.Start.Month, x.Start.Day, x.Every, x.Count} {
		parts = append(parts, strconv.Itoa(n))
	}
	return strings.Join(parts, " ")
}

// amount checks that Money answers the number of this text, and OK.
func amount(t *testing.T, s string) {
	t.Helper()
	want, ok := new(big.Int).SetString(s, 10)
	m, e := terms.Money(s)
	if !ok || m.Print() != want.String() || m.Sign() != want.Sign() || e != api.OK {
		t.Errorf("P14.2: Money(%q): %s, error %d", s, m.Print(), e)
	}
}

// noAmount checks that Money answers this error, and 0 beside it.
func noAmount(t *testing.T, s string, want api.Errno) {
	t.Helper()
	if m, e := terms.Money(s); m.Sign() != 0 || m.Cmp(whole.Int{}) != 0 || m.Print() != "0" || e != want {
		t.Errorf("P14.2: Money(%.80q): %s, error %d, want %d", s, m.Print(), e, want)
	}
}

// rate checks that Rate answers a hundredth of the text's number, in lowest terms, and OK.
func rate(t *testing.T, s string) {
	t.Helper()
	want, ok := new(big.Rat).SetString(s)
	if !ok {
		t.Fatalf("%q is no number", s)
	}
	want.Quo(want, big.NewRat(100, 1))
	if x, e := terms.Rate(s); x.Print() != want.RatString() || x.Sign() != want.Sign() || e != api.OK {
		t.Errorf("P14.2: Rate(%q): %s, error %d, want %s", s, x.Print(), e, want.RatString())
	}
}

// noRate checks that Rate answers this error, and 0 beside it.
func noRate(t *testing.T, s string, want api.Errno) {
	t.Helper()
	if x, e := terms.Rate(s); x.Sign() != 0 || x.Cmp(frac.Frac{}) != 0 || x.Print() != "0" || e != want {
		t.Errorf("P14.2: Rate(%.80q): %s, error %d, want %d", s, x.Print(), e, want)
	}
}

func TestWord(t *testing.T) {
	for i, x := range kinds {
		if x.kind != i {
			t.Errorf("P14.1: kind %s is numbered %d, want %d", x.word, x.kind, i)
		}
		if got := terms.Word(x.kind); got != x.word {
			t.Errorf("P14.1: Word(%d): %q, want %q", x.kind, got, x.word)
		}
	}
	for _, kind := range append(far, api.Kinds, api.Kinds+1, 9) {
		if got := terms.Word(kind); got != "" {
			t.Errorf("P14.1: Word(%d): %q, want none", kind, got)
		}
	}
}

func TestOf(t *testing.T) {
	for _, x := range kinds {
		if kind, ok := terms.Of(x.word); kind != x.kind || !ok {
			t.Errorf("P14.1: Of(%q): %d, %t, want %d", x.word, kind, ok, x.kind)
		}
		title := strings.ToUpper(x.word[:1]) + x.word[1:]
		for _, s := range []string{strings.ToUpper(x.word), title, " " + x.word, x.word + " ", "\t" + x.word, x.word + "\n", x.word + "\x00", x.word[1:], x.word[:1], x.word[:len(x.word)-1], x.word + "s", x.word + x.word} {
			noWord(t, s)
		}
	}
	for _, s := range []string{"", " ", "0", "1", "2", "-1", "thirty", "fixed", "actual", "down", "half-up", "pay", "annuities", "annuity linear", "annuity,linear", "annuity\xff", "\xff", "annuıty", strings.Repeat("x", 1<<20)} {
		noWord(t, s)
	}
}

// noWord checks that Of answers 0 and false.
func noWord(t *testing.T, s string) {
	t.Helper()
	if kind, ok := terms.Of(s); kind != 0 || ok {
		t.Errorf("P14.1: Of(%.80q): %d, %t, want 0, false", s, kind, ok)
	}
}

func TestMoney(t *testing.T) {
	for _, s := range []string{"0", "1", "2", "9", "10", "99", "100", "100000", "25000000", "9223372036854775807", "9223372036854775808", "18446744073709551615", "18446744073709551616", strings.Repeat("9", api.MaxMoney), "1" + strings.Repeat("0", api.MaxMoney-1), greatest} {
		amount(t, s)
	}
	for _, x := range wrongMoney {
		noAmount(t, x.text, x.want)
		if _, e := whole.Parse(x.text); e != api.OK && e != x.want {
			t.Errorf("P14.2: %.80q: Parse of layer 4: error %d, want %d", x.text, e, x.want)
		}
	}
}

// TestMoneyByChance: what is an amount is told by the library's own arithmetic.
func TestMoneyByChance(t *testing.T) {
	source := rand.New(rand.NewSource(14))
	edge, _ := new(big.Int).SetString(greatest, 10)
	span := new(big.Int).Lsh(big.NewInt(1), 110)
	for range 2000 {
		n := new(big.Int).Rand(source, span)
		n.Rsh(n, uint(source.Intn(110)))
		for _, v := range []*big.Int{n, new(big.Int).Neg(n), new(big.Int).Add(edge, n), new(big.Int).Sub(edge, n)} {
			if v.Sign() < 0 || v.Cmp(edge) > 0 {
				noAmount(t, v.String(), api.ErrMoney)
				continue
			}
			amount(t, v.String())
		}
	}
}

func TestRateByHand(t *testing.T) {
	for _, x := range []struct{ text, want string }{
		{"4.25", "17/400"}, {"0", "0"}, {"0.0", "0"}, {"0.00", "0"}, {"1", "1/100"}, {"5", "1/20"}, {"5.00", "1/20"}, {"12", "3/25"}, {"12.5", "1/8"}, {"100", "1"}, {"100.0", "1"}, {"150", "3/2"}, {"1000", "10"}, {"1000.0", "10"},
		{"3.65", "73/2000"}, {"0.000000000000", "0"}, {"1000.000000000000", "10"}, {"0.000000000001", "1/100000000000000"}, {"999.999999999999", "999999999999999/100000000000000"}, {"33.333333333333", "33333333333333/100000000000000"},
	} {
		if got, e := terms.Rate(x.text); got.Print() != x.want || e != api.OK {
			t.Errorf("P14.2: Rate(%q): %s, error %d, want %s", x.text, got.Print(), e, x.want)
		}
	}
	for _, x := range wrongRates {
		noRate(t, x.text, x.want)
		if _, e := dec.Parse(x.text); e != api.OK && e != x.want {
			t.Errorf("P14.2: %.80q: Parse of layer 7: error %d, want %d", x.text, e, x.want)
		}
	}
}

// TestRateScales: each scale, of what is within the bounds, on them, and just beyond them.
func TestRateScales(t *testing.T) {
	for scale := 1; scale <= api.MaxScale; scale++ {
		noughts := strings.Repeat("0", scale-1)
		for _, s := range []string{"0." + noughts + "0", "0." + noughts + "1", "4." + noughts + "7", "999." + strings.Repeat("9", scale), "1000." + noughts + "0"} {
			if scale > 12 {
				noRate(t, s, api.ErrRate)
				continue
			}
			rate(t, s)
		}
		for _, s := range []string{"1000." + noughts + "1", "-0." + noughts + "1", "-4." + noughts + "0", "1001." + noughts + "0"} {
			noRate(t, s, api.ErrRate)
		}
	}
}

func TestRateByChance(t *testing.T) {
	source := rand.New(rand.NewSource(41))
	for range 2000 {
		scale := source.Intn(16)
		coef := source.Int63n(1 << (1 + source.Intn(62)))
		if source.Intn(8) == 0 {
			coef = -coef
		}
		d, _ := dec.Of(whole.From(int(coef)), scale)
		power := new(big.Int).Exp(big.NewInt(10), big.NewInt(int64(scale)), nil)
		v := new(big.Rat).SetFrac(big.NewInt(coef), power)
		if scale > 12 || v.Sign() < 0 || v.Cmp(big.NewRat(1000, 1)) > 0 {
			noRate(t, d.Print(), api.ErrRate)
			continue
		}
		rate(t, d.Print())
	}
}

func TestCheckMoneyAndRate(t *testing.T) {
	wants(t, "good", good(), api.OK)
	for _, s := range []string{"1", "2", "100", strings.Repeat("9", api.MaxMoney), greatest} {
		x := good()
		x.Principal = s
		wants(t, "a Principal", x, api.OK)
	}
	x := good()
	x.Principal = "0"
	wants(t, "a Principal of 0", x, api.ErrMoney)
	for _, w := range wrongMoney {
		x.Principal = w.text
		wants(t, "a Principal that is none", x, w.want)
	}
	x = good()
	for _, s := range []string{"0", "0.00", "4.25", "1000", "1000.000000000000", "0.000000000001"} {
		x.Rate = s
		wants(t, "a Rate", x, api.OK)
	}
	for _, w := range wrongRates {
		x.Rate = w.text
		wants(t, "a Rate that is none", x, w.want)
	}
}

// number is an int of terms, which may be from 0 on and below this one, and where it stands.
type number struct {
	name  string
	below int
	place func(x *api.Terms) *int
}

var numbers = []number{
	{"Kind", api.Kinds, func(x *api.Terms) *int { return &x.Kind }},
	{"Basis", int(count.Bases), func(x *api.Terms) *int { return &x.Basis }},
	{"Mode", int(round.Modes), func(x *api.Terms) *int { return &x.Mode }},
}

func TestCheckNumbers(t *testing.T) {
	for _, n := range numbers {
		x := good()
		for i := range n.below {
			*n.place(&x) = i
			wants(t, n.name, x, api.OK)
		}
		for _, i := range append(far, n.below, n.below+1, n.below+2, 9) {
			*n.place(&x) = i
			wants(t, "no "+n.name, x, api.ErrArg)
		}
	}
	if int(count.Bases) != 3 || int(round.Modes) != 5 || api.Kinds != 3 {
		t.Errorf("P14.3: %d bases, %d modes, %d kinds", count.Bases, round.Modes, api.Kinds)
	}
}

// TestCheckAll: each Kind with each Basis, each Mode and each Every.
func TestCheckAll(t *testing.T) {
	x := good()
	for x.Kind = range int(api.Kinds) {
		for x.Basis = range int(count.Bases) {
			for x.Mode = range int(round.Modes) {
				for _, x.Every = range everies {
					wants(t, "all", x, api.OK)
				}
			}
		}
	}
}

func TestCheckEvery(t *testing.T) {
	x := good()
	for every := -30; every <= 60; every++ {
		x.Every = every
		want := api.ErrArg
		for _, known := range everies {
			if every == known {
				want = api.OK
			}
		}
		wants(t, "Every", x, want)
	}
	for _, x.Every = range far {
		wants(t, "no Every", x, api.ErrArg)
	}
}

func TestCheckCount(t *testing.T) {
	for _, every := range everies {
		x := good()
		x.Every = every
		for _, x.Count = range []int{1, 2, 3, 12, 1000, api.MaxTerms - 1, api.MaxTerms} {
			wants(t, "a Count", x, api.OK)
		}
		for _, x.Count = range []int{0, -1, -2, -12, api.MaxTerms + 1, api.MaxTerms + 2, 1 << 16, 1 << 32, 1<<32 + 1, 1 << 61, 1<<61 + 1, 1 << 62, math.MaxInt - 1, math.MaxInt, math.MinInt, math.MinInt + 1, -1 << 32, -1<<32 + 1, -1 << 62} {
			wants(t, "no Count", x, api.ErrMany)
		}
	}
}

func TestCheckStart(t *testing.T) {
	x := good()
	for _, x.Start = range wrongDates {
		wants(t, "a Start that isn't right", x, api.ErrDate)
	}
	for _, x.Start = range []api.Date{day(1, 1, 1), day(1600, 2, 29), day(2024, 2, 29), day(2024, 12, 31), day(9989, 12, 31)} {
		wants(t, "a Start", x, api.OK)
	}
}

// TestCheckLast: of each Every and some Counts, the last first month within the calendar, and the one behind it.
func TestCheckLast(t *testing.T) {
	for _, every := range everies {
		for _, n := range []int{1, 2, 11, 12, 13, 500, api.MaxTerms} {
			x := good()
			x.Every, x.Count = every, n
			// The library counts months on without an end.
			last := time.Date(9999, time.December-time.Month(every*n), 1, 0, 0, 0, 0, time.UTC)
			for _, x.Start = range []api.Date{day(last.Year(), int(last.Month()), 1), day(last.Year(), int(last.Month()), 28)} {
				wants(t, "a last date within the last year", x, api.OK)
			}
			next := last.AddDate(0, 1, 0)
			for _, x.Start = range []api.Date{day(next.Year(), int(next.Month()), 1), day(next.Year(), int(next.Month()), 28)} {
				wants(t, "a last date beyond the last year", x, api.ErrDate)
			}
		}
	}
	for _, w := range []struct {
		start        api.Date
		every, count int
		want         api.Errno
	}{
		{day(9999, 11, 30), 1, 1, api.OK}, {day(9999, 12, 1), 1, 1, api.ErrDate}, {day(9998, 12, 31), 12, 1, api.OK}, {day(9999, 1, 1), 12, 1, api.ErrDate}, {day(9998, 12, 31), 1, 12, api.OK}, {day(9998, 12, 31), 1, 13, api.ErrDate},
		{day(8799, 12, 31), 12, api.MaxTerms, api.OK}, {day(8800, 1, 1), 12, api.MaxTerms, api.ErrDate}, {day(9999, 10, 31), 2, 1, api.OK}, {day(9999, 10, 31), 1, 2, api.OK}, {day(9999, 10, 31), 3, 1, api.ErrDate},
	} {
		x := good()
		x.Start, x.Every, x.Count = w.start, w.every, w.count
		wants(t, "the calendar's end", x, w.want)
	}
}

// fault makes terms wrong, so that they have this error.
type fault struct {
	want api.Errno
	spot int // one of a loan's fields, in the order in which they are gone through
	make func(x *api.Terms)
}

var faults = []fault{
	{api.ErrNumber, 0, func(x *api.Terms) { x.Principal = "1.5" }}, {api.ErrLong, 0, func(x *api.Terms) { x.Principal = strings.Repeat("1", api.MaxDigits+1) }},
	{api.ErrMoney, 0, func(x *api.Terms) { x.Principal = "-1" }}, {api.ErrMoney, 0, func(x *api.Terms) { x.Principal = greatest + "0" }}, {api.ErrMoney, 0, func(x *api.Terms) { x.Principal = "0" }},
	{api.ErrNumber, 1, func(x *api.Terms) { x.Rate = "" }}, {api.ErrScale, 1, func(x *api.Terms) { x.Rate = "0." + strings.Repeat("0", api.MaxScale+1) }}, {api.ErrLong, 1, func(x *api.Terms) { x.Rate = strings.Repeat("1", api.MaxDigits+1) }},
	{api.ErrRate, 1, func(x *api.Terms) { x.Rate = "1000.01" }}, {api.ErrRate, 1, func(x *api.Terms) { x.Rate = "-1" }}, {api.ErrRate, 1, func(x *api.Terms) { x.Rate = "1.0000000000000" }},
	{api.ErrArg, 2, func(x *api.Terms) { x.Kind = api.Kinds }}, {api.ErrArg, 3, func(x *api.Terms) { x.Basis = -1 }}, {api.ErrArg, 4, func(x *api.Terms) { x.Mode = int(round.Modes) }}, {api.ErrArg, 5, func(x *api.Terms) { x.Every = 0 }}, {api.ErrArg, 5, func(x *api.Terms) { x.Every = math.MaxInt }},
	{api.ErrMany, 6, func(x *api.Terms) { x.Count = 0 }}, {api.ErrMany, 6, func(x *api.Terms) { x.Count = math.MaxInt }}, {api.ErrMany, 6, func(x *api.Terms) { x.Count = api.MaxTerms + 1 }},
	{api.ErrDate, 7, func(x *api.Terms) { x.Start = api.Date{} }}, {api.ErrDate, 7, func(x *api.Terms) { x.Start = day(9999, 12, 31) }}, {api.ErrDate, 7, func(x *api.Terms) { x.Start = day(2024, 2, 30) }},
}

// TestCheckOrder: each fault alone, and each with one, and with all, of those that the chapter names behind it.
func TestCheckOrder(t *testing.T) {
	for _, first := range faults {
		x := good()
		first.make(&x)
		wants(t, "one thing is wrong", x, first.want)
		for _, second := range faults {
			if second.spot <= first.spot {
				continue
			}
			y := x
			second.make(&y)
			wants(t, "two things are wrong", y, first.want)
		}
		for _, last := range faults {
			if last.spot > first.spot {
				last.make(&x)
			}
		}
		wants(t, "all behind it is wrong", x, first.want)
	}
	wants(t, "no terms", api.Terms{}, api.ErrNumber)
}
