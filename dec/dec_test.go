package dec_test

import (
	"math"
	"math/big"
	"math/rand"
	"strconv"
	"strings"
	"testing"

	"chattel/api"
	"chattel/dec"
	"chattel/digits"
	"chattel/frac"
	"chattel/round"
	"chattel/whole"
)

// modes are all of them, in order.
var modes = []round.Mode{round.Down, round.Up, round.HalfUp, round.HalfDown, round.HalfEven}

// noModes are numbers that are no mode's.
var noModes = []round.Mode{round.Modes, round.Modes + 1, -1, 1 << 32, math.MaxInt, math.MinInt}

// wrongScales are below 0 or above MaxScale; each one's lowest byte or half, taken for itself, may be a right one.
var wrongScales = []int{-1, -2, -api.MaxScale, api.MaxScale + 1, api.MaxScale + 2, 256, 1 << 32, -1 << 32, math.MaxInt, math.MinInt}

// number is that of the library's own arithmetic, as an Int; in pieces, as a text that is parsed isn't as long as a number can be.
func number(v *big.Int) whole.Int {
	const piece = 4000
	text := new(big.Int).Abs(v).String()
	step, _ := digits.Ten(piece)
	x, _ := whole.Parse(text[:len(text)%piece])
	for at := len(text) % piece; at < len(text); at += piece {
		part, _ := whole.Parse("1" + text[at:at+piece])
		x = x.Mul(whole.Of(step, false)).Add(part.Sub(whole.Of(step, false)))
	}
	if v.Sign() < 0 {
		return x.Neg()
	}
	return x
}

// decimal is the Dec of a coefficient of the library's own arithmetic.
func decimal(t *testing.T, coef *big.Int, scale int) dec.Dec {
	t.Helper()
	x, e := dec.Of(number(coef), scale)
	if e != api.OK {
		t.Fatalf("P7.1: Of %v, scale %d: error %d", coef, scale, e)
	}
	return x
}

// of is the Dec of a text that is one's.
func of(t *testing.T, s string) dec.Dec {
	t.Helper()
	x, e := dec.Parse(s)
	if e != api.OK {
		t.Fatalf("P7.3: Parse of %.80q: error %d", s, e)
	}
	return x
}

// ten is 10 times itself, so often, by the library's own arithmetic.
func ten(times int) *big.Int {
	return new(big.Int).Exp(big.NewInt(10), big.NewInt(int64(times)), nil)
}

// ratio is what a coefficient with a scale is, by the library's own arithmetic.
func ratio(coef *big.Int, scale int) *big.Rat { return new(big.Rat).SetFrac(coef, ten(scale)) }

// wants checks that a Dec has this coefficient and this scale.
func wants(t *testing.T, what string, x dec.Dec, coef string, scale int) {
	t.Helper()
	if x.Coef().Print() != coef || x.Scale() != scale {
		t.Errorf("%s: coefficient %.80s, scale %d, want %.80s, %d", what, x.Coef().Print(), x.Scale(), coef, scale)
	}
}

// right checks that a call answered this Dec, and OK.
func right(t *testing.T, what string, x dec.Dec, e api.Errno, coef string, scale int) {
	t.Helper()
	if e != api.OK {
		t.Errorf("%s: error %d", what, e)
	}
	wants(t, what, x, coef, scale)
}

// refused checks that a call answered this error, and the zero Dec beside it.
func refused(t *testing.T, what string, x dec.Dec, e, want api.Errno) {
	t.Helper()
	if e != want {
		t.Errorf("%s: error %d, want %d", what, e, want)
	}
	wants(t, what, x, "0", 0)
}

// rounded is v by a mode, as layer 6's words say it: of the two whole magnitudes beside that of v, the one that the mode takes.
func rounded(v *big.Rat, m round.Mode) string {
	magnitude := new(big.Rat).Abs(v)
	low := new(big.Int).Quo(magnitude.Num(), magnitude.Denom())
	twice := new(big.Rat).Sub(magnitude, new(big.Rat).SetInt(low))
	twice.Add(twice, twice)
	side := twice.Cmp(big.NewRat(1, 1))
	raise := m == round.Up && twice.Sign() > 0 || m >= round.HalfUp && side > 0
	if side == 0 && (m == round.HalfUp || m == round.HalfEven && low.Bit(0) == 1) {
		raise = true
	}
	if raise {
		low.Add(low, big.NewInt(1))
	}
	if v.Sign() < 0 {
		low.Neg(low)
	}
	return low.String()
}

// coefs are coefficients: 0, the first ones, those where digits or limbs begin or end, and long ones; above 0 and below.
func coefs() []*big.Int {
	l := []*big.Int{new(big.Int)}
	keep := func(n *big.Int) { l = append(l, n, new(big.Int).Neg(n)) }
	for _, n := range []int64{1, 2, 5, 9, 10, 15, 25, 99, 100, 101, 150, 12345, 1 << 40, math.MaxInt64} {
		keep(big.NewInt(n))
	}
	for _, bits := range []uint{64, 128, 700} {
		edge := new(big.Int).Lsh(big.NewInt(1), bits)
		for near := int64(-1); near <= 1; near++ {
			keep(new(big.Int).Add(edge, big.NewInt(near)))
		}
	}
	for _, times := range []int{api.MaxScale - 1, api.MaxScale, api.MaxScale + 1} {
		keep(ten(times))
		keep(new(big.Int).Sub(ten(times), big.NewInt(1)))
	}
	source := rand.New(rand.NewSource(7))
	for bits := uint(60); bits < 400; bits += 110 {
		keep(new(big.Int).Rand(source, new(big.Int).Lsh(big.NewInt(1), bits)))
	}
	return l
}

// scales are the edges, and some between them.
var scales = []int{0, 1, 2, 18, 32, api.MaxScale - 1, api.MaxScale}

// sample is a decimal, with what it is by the library's own arithmetic.
type sample struct {
	coef  *big.Int
	scale int
	value *big.Rat
	dec   dec.Dec
}

// samples are all coefficients with some of the scales each.
func samples(t *testing.T) []sample {
	var l []sample
	for i, coef := range coefs() {
		for j, scale := range scales {
			if (i+j)%2 == 0 || coef.Sign() == 0 {
				l = append(l, sample{coef, scale, ratio(coef, scale), decimal(t, coef, scale)})
			}
		}
	}
	return l
}

// name of a sample in a test's words.
func (s sample) name() string { return s.coef.String() + " by 10, " + strconv.Itoa(s.scale) + " times" }

// scaled is a value times ten, so often.
func scaled(v *big.Rat, scale int) *big.Rat {
	return new(big.Rat).Mul(v, new(big.Rat).SetInt(ten(scale)))
}

func TestOf(t *testing.T) {
	for _, coef := range coefs() {
		for scale := range api.MaxScale + 1 {
			x, e := dec.Of(number(coef), scale)
			right(t, "P7.1: Of", x, e, coef.String(), scale)
			if x.Frac().Print() != ratio(coef, scale).RatString() {
				t.Errorf("P7.1: Frac of %v, scale %d: %.80s", coef, scale, x.Frac().Print())
			}
		}
		for _, scale := range wrongScales {
			x, e := dec.Of(number(coef), scale)
			refused(t, "P7.1: Of "+coef.String()+", wrong scale", x, e, api.ErrScale)
		}
	}
}

func TestFracByHand(t *testing.T) {
	for _, x := range []struct {
		coef, scale int
		want        string
	}{{0, 0, "0"}, {0, 64, "0"}, {7, 0, "7"}, {-7, 0, "-7"}, {15, 1, "3/2"}, {-15, 1, "-3/2"}, {150, 2, "3/2"}, {-5, 3, "-1/200"}, {700, 2, "7"}, {3, 4, "3/10000"}} {
		d, _ := dec.Of(whole.From(x.coef), x.scale)
		if got := d.Frac().Print(); got != x.want {
			t.Errorf("P7.1: Frac of %d, scale %d: %s, want %s", x.coef, x.scale, got, x.want)
		}
	}
}

// TestZero: the zero Dec is that of 0 with the scale 0, in every call.
func TestZero(t *testing.T) {
	var zero dec.Dec
	wants(t, "P7.1: the zero Dec", zero, "0", 0)
	if f := zero.Frac(); f.Sign() != 0 || f.Print() != "0" || f.Cmp(frac.Frac{}) != 0 {
		t.Errorf("P7.1: Frac of the zero Dec: %s", f.Print())
	}
	if zero.Print() != "0" {
		t.Errorf("P7.3: the zero Dec is printed %q", zero.Print())
	}
	x := of(t, "-1.50")
	wants(t, "P7.2: to the zero Dec", zero.Add(x), "-150", 2)
	wants(t, "P7.2: the zero Dec to it", x.Add(zero), "-150", 2)
	wants(t, "P7.2: the zero Dec less it", zero.Sub(x), "150", 2)
	wants(t, "P7.2: less the zero Dec", x.Sub(zero), "-150", 2)
	wants(t, "P7.2: the zero Dec twice", zero.Sub(zero), "0", 0)
	if zero.Cmp(x) != 1 || x.Cmp(zero) != -1 || zero.Cmp(dec.Dec{}) != 0 {
		t.Errorf("P7.1: Cmp with the zero Dec: %d, %d, %d", zero.Cmp(x), x.Cmp(zero), zero.Cmp(dec.Dec{}))
	}
	p, e := zero.Mul(x)
	right(t, "P7.2: the zero Dec times", p, e, "0", 2)
	r, e := zero.Rescale(3, round.Up)
	right(t, "P7.2: the zero Dec rescaled", r, e, "0", 3)
	q, e := zero.Quo(x, 5, round.Up)
	right(t, "P7.2: the zero Dec by it", q, e, "0", 5)
	q, e = x.Quo(zero, 5, round.Up)
	refused(t, "P7.2: by the zero Dec", q, e, api.ErrZero)
}

func TestCmpByHand(t *testing.T) {
	for _, x := range []struct {
		a, b string
		want int
	}{
		{"0", "0", 0}, {"0", "0.0", 0}, {"0.000", "0.0", 0}, {"1", "1.0", 0}, {"1.50", "1.5", 0}, {"-1.50", "-1.5", 0}, {"100", "100.00", 0},
		{"1", "2", -1}, {"1.9", "2", -1}, {"1.99", "1.9", 1}, {"1.09", "1.9", -1}, {"0.1", "0.09", 1}, {"0.1", "0", 1}, {"-0.1", "0", -1}, {"0.0", "-0.01", 1},
		{"-1", "1", -1}, {"-1", "-2", 1}, {"-1.9", "-2", 1}, {"-1.99", "-1.9", -1}, {"-1.09", "-1.9", 1}, {"10", "9.99", 1}, {"-10", "-9.99", -1}, {"18446744073709551616", "1844674407370955161.60", 1},
	} {
		a, b := of(t, x.a), of(t, x.b)
		if a.Cmp(b) != x.want || b.Cmp(a) != -x.want {
			t.Errorf("P7.1: Cmp of %s and %s: %d, and back %d, want %d", x.a, x.b, a.Cmp(b), b.Cmp(a), x.want)
		}
	}
}

func TestTwo(t *testing.T) {
	list := samples(t)
	for _, a := range list {
		for _, b := range list {
			scale := max(a.scale, b.scale)
			if got := a.dec.Cmp(b.dec); got != a.value.Cmp(b.value) {
				t.Errorf("P7.1: Cmp of %s and %s: %d", a.name(), b.name(), got)
			}
			sum := scaled(new(big.Rat).Add(a.value, b.value), scale)
			wants(t, "P7.2: Add", a.dec.Add(b.dec), sum.RatString(), scale)
			difference := scaled(new(big.Rat).Sub(a.value, b.value), scale)
			wants(t, "P7.2: Sub", a.dec.Sub(b.dec), difference.RatString(), scale)
			product, e := a.dec.Mul(b.dec)
			if a.scale+b.scale > api.MaxScale {
				refused(t, "P7.2: Mul", product, e, api.ErrScale)
				continue
			}
			right(t, "P7.2: Mul", product, e, new(big.Int).Mul(a.coef, b.coef).String(), a.scale+b.scale)
		}
	}
	for _, a := range list {
		wants(t, "P7.2: what was reckoned with stays: "+a.name(), a.dec, a.coef.String(), a.scale)
	}
}

func TestTwoByHand(t *testing.T) {
	for _, x := range []struct{ a, b, add, sub, mul string }{
		{"1.50", "0.125", "1.625", "1.375", "0.18750"}, {"0.125", "1.50", "1.625", "-1.375", "0.18750"}, {"1.25", "1.25", "2.50", "0.00", "1.5625"}, {"-1.5", "1.5", "0.0", "-3.0", "-2.25"},
		{"0", "0.00", "0.00", "0.00", "0.00"}, {"-1", "0.01", "-0.99", "-1.01", "-0.01"}, {"5", "0.0", "5.0", "5.0", "0.0"}, {"-5", "0.0", "-5.0", "-5.0", "0.0"}, {"-0.5", "-0.25", "-0.75", "-0.25", "0.125"},
		{"99.99", "0.01", "100.00", "99.98", "0.9999"}, {"18446744073709551615", "1", "18446744073709551616", "18446744073709551614", "18446744073709551615"}, {"1844674407370955161.5", "0.10", "1844674407370955161.60", "1844674407370955161.40", "184467440737095516.150"},
	} {
		a, b := of(t, x.a), of(t, x.b)
		p, e := a.Mul(b)
		if got := [3]string{a.Add(b).Print(), a.Sub(b).Print(), p.Print()}; got != [3]string{x.add, x.sub, x.mul} || e != api.OK {
			t.Errorf("P7.2: %s and %s: %q, error %d", x.a, x.b, got, e)
		}
	}
}

// TestMulScales: together, scales may be MaxScale, and no more, also where a coefficient is 0.
func TestMulScales(t *testing.T) {
	for a := range api.MaxScale + 1 {
		for _, coef := range []int64{0, 3, -7} {
			x, rest := decimal(t, big.NewInt(coef), a), api.MaxScale-a
			p, e := x.Mul(decimal(t, big.NewInt(-20), rest))
			right(t, "P7.2: Mul, scales together MaxScale", p, e, strconv.Itoa(int(coef)*-20), api.MaxScale)
			for _, scale := range []int{rest + 1, api.MaxScale} {
				if a == 0 {
					continue
				}
				p, e := x.Mul(decimal(t, big.NewInt(-20), scale))
				refused(t, "P7.2: Mul, scales together above MaxScale", p, e, api.ErrScale)
				p, e = x.Mul(decimal(t, new(big.Int), scale))
				refused(t, "P7.2: Mul by 0, scales together above MaxScale", p, e, api.ErrScale)
			}
		}
	}
}

func TestRescaleByHand(t *testing.T) {
	for _, x := range []struct {
		text  string
		scale int
		want  [5]string
	}{
		{"7", 0, [5]string{"7", "7", "7", "7", "7"}}, {"7", 3, [5]string{"7.000", "7.000", "7.000", "7.000", "7.000"}}, {"-1.5", 1, [5]string{"-1.5", "-1.5", "-1.5", "-1.5", "-1.5"}}, {"-1.5", 2, [5]string{"-1.50", "-1.50", "-1.50", "-1.50", "-1.50"}}, {"0.00", 1, [5]string{"0.0", "0.0", "0.0", "0.0", "0.0"}}, {"1.200", 1, [5]string{"1.2", "1.2", "1.2", "1.2", "1.2"}},
		{"1.005", 2, [5]string{"1.00", "1.01", "1.01", "1.00", "1.00"}}, {"-1.005", 2, [5]string{"-1.00", "-1.01", "-1.01", "-1.00", "-1.00"}}, {"1.015", 2, [5]string{"1.01", "1.02", "1.02", "1.01", "1.02"}}, {"-1.015", 2, [5]string{"-1.01", "-1.02", "-1.02", "-1.01", "-1.02"}},
		{"0.5", 0, [5]string{"0", "1", "1", "0", "0"}}, {"-0.5", 0, [5]string{"0", "-1", "-1", "0", "0"}}, {"2.5001", 0, [5]string{"2", "3", "3", "3", "3"}}, {"-2.4999", 0, [5]string{"-2", "-3", "-2", "-2", "-2"}}, {"9.99", 1, [5]string{"9.9", "10.0", "10.0", "10.0", "10.0"}}, {"-0.04", 1, [5]string{"0.0", "-0.1", "0.0", "0.0", "0.0"}},
	} {
		for i, m := range modes {
			r, e := of(t, x.text).Rescale(x.scale, m)
			if r.Print() != x.want[i] || r.Scale() != x.scale || e != api.OK {
				t.Errorf("P7.2: %s to %d, %s: %s, error %d, want %s", x.text, x.scale, m.Word(), r.Print(), e, x.want[i])
			}
		}
	}
}

func TestRescale(t *testing.T) {
	for _, a := range samples(t) {
		for _, scale := range scales {
			for _, m := range modes {
				r, e := a.dec.Rescale(scale, m)
				right(t, "P7.2: Rescale of "+a.name()+", "+m.Word(), r, e, rounded(scaled(a.value, scale), m), scale)
			}
		}
	}
}

// TestWrongRounding: layer 6 tells of a wrong mode first, then of a wrong scale; a divisor that is 0 comes ahead of both.
func TestWrongRounding(t *testing.T) {
	two, zeros := of(t, "-2.0"), []dec.Dec{{}, of(t, "0.00"), decimal(t, new(big.Int), api.MaxScale), of(t, "1.5").Sub(of(t, "1.50"))}
	for _, a := range []dec.Dec{{}, of(t, "1"), of(t, "-1.005"), of(t, "0.00"), of(t, "18446744073709551616.5")} {
		for _, scale := range append([]int{0, 2, api.MaxScale}, wrongScales...) {
			for _, m := range append(append([]round.Mode{}, modes...), noModes...) {
				want := api.OK
				if scale < 0 || scale > api.MaxScale {
					want = api.ErrScale
				}
				if m < 0 || m >= round.Modes {
					want = api.ErrArg
				}
				for _, zero := range zeros {
					q, e := a.Quo(zero, scale, m)
					refused(t, "P7.2: Quo by 0", q, e, api.ErrZero)
				}
				if want == api.OK {
					continue
				}
				r, e := a.Rescale(scale, m)
				refused(t, "P7.2: Rescale, wrong scale or mode", r, e, want)
				q, e := a.Quo(two, scale, m)
				refused(t, "P7.2: Quo, wrong scale or mode", q, e, want)
			}
		}
	}
}

func TestQuoByHand(t *testing.T) {
	for _, x := range []struct {
		a, b  string
		scale int
		want  [5]string
	}{
		{"1", "3", 4, [5]string{"0.3333", "0.3334", "0.3333", "0.3333", "0.3333"}}, {"1", "-3", 4, [5]string{"-0.3333", "-0.3334", "-0.3333", "-0.3333", "-0.3333"}}, {"-2", "3", 2, [5]string{"-0.66", "-0.67", "-0.67", "-0.67", "-0.67"}}, {"-2", "-3", 2, [5]string{"0.66", "0.67", "0.67", "0.67", "0.67"}},
		{"6", "3", 0, [5]string{"2", "2", "2", "2", "2"}}, {"-6.0", "0.003", 2, [5]string{"-2000.00", "-2000.00", "-2000.00", "-2000.00", "-2000.00"}}, {"1", "8", 2, [5]string{"0.12", "0.13", "0.13", "0.12", "0.12"}}, {"-3", "8", 2, [5]string{"-0.37", "-0.38", "-0.38", "-0.37", "-0.38"}}, {"1.5", "-1", 0, [5]string{"-1", "-2", "-2", "-1", "-2"}},
		{"0.00", "-7", 1, [5]string{"0.0", "0.0", "0.0", "0.0", "0.0"}}, {"1", "-300", 1, [5]string{"0.0", "-0.1", "0.0", "0.0", "0.0"}}, {"340282366920938463463374607431768211456", "18446744073709551616", 1, [5]string{"18446744073709551616.0", "18446744073709551616.0", "18446744073709551616.0", "18446744073709551616.0", "18446744073709551616.0"}},
	} {
		for i, m := range modes {
			q, e := of(t, x.a).Quo(of(t, x.b), x.scale, m)
			if q.Print() != x.want[i] || q.Scale() != x.scale || e != api.OK {
				t.Errorf("P7.2: %s by %s, scale %d, %s: %s, error %d, want %s", x.a, x.b, x.scale, m.Word(), q.Print(), e, x.want[i])
			}
		}
	}
}

func TestQuo(t *testing.T) {
	list := samples(t)
	for i, a := range list {
		for j, b := range list {
			if b.coef.Sign() == 0 {
				continue
			}
			scale, m := scales[(i+2*j)%len(scales)], modes[(3*i+j)%len(modes)]
			q, e := a.dec.Quo(b.dec, scale, m)
			want := rounded(scaled(new(big.Rat).Quo(a.value, b.value), scale), m)
			right(t, "P7.2: "+a.name()+", by "+b.name()+", "+m.Word(), q, e, want, scale)
		}
	}
}

func TestPrintByHand(t *testing.T) {
	for _, x := range []struct {
		coef  string
		scale int
		want  string
	}{
		{"0", 0, "0"}, {"0", 1, "0.0"}, {"0", 2, "0.00"}, {"0", api.MaxScale, "0." + strings.Repeat("0", api.MaxScale)},
		{"5", 0, "5"}, {"-5", 0, "-5"}, {"5", 1, "0.5"}, {"-5", 1, "-0.5"}, {"5", 3, "0.005"}, {"-5", 3, "-0.005"}, {"50", 3, "0.050"}, {"100", 2, "1.00"}, {"-100", 2, "-1.00"},
		{"123", 2, "1.23"}, {"123", 3, "0.123"}, {"-123", 4, "-0.0123"}, {"123", 1, "12.3"}, {"-1234567", 2, "-12345.67"}, {"18446744073709551616", 19, "1.8446744073709551616"}, {"-18446744073709551616", 20, "-0.18446744073709551616"},
		{"1", api.MaxScale, "0." + strings.Repeat("0", api.MaxScale-1) + "1"}, {strings.Repeat("9", api.MaxScale), api.MaxScale, "0." + strings.Repeat("9", api.MaxScale)}, {"-" + strings.Repeat("9", api.MaxScale+1), api.MaxScale, "-9." + strings.Repeat("9", api.MaxScale)},
	} {
		coef, _ := whole.Parse(x.coef)
		d, _ := dec.Of(coef, x.scale)
		if got := d.Print(); got != x.want {
			t.Errorf("P7.3: Print of %s, scale %d: %s, want %s", x.coef, x.scale, got, x.want)
		}
		p, e := dec.Parse(x.want)
		right(t, "P7.3: Parse of "+x.want, p, e, x.coef, x.scale)
	}
}

// TestThereAndBack: what is printed is the number with so many digits behind the point, and is parsed to the Dec with its scale again.
func TestThereAndBack(t *testing.T) {
	for _, coef := range coefs() {
		for scale := range api.MaxScale + 1 {
			text := decimal(t, coef, scale).Print()
			if want := ratio(coef, scale).FloatString(scale); text != want {
				t.Errorf("P7.3: Print of %v, scale %d: %.80s, want %.80s", coef, scale, text, want)
			}
			x, e := dec.Parse(text)
			right(t, "P7.3: Parse of what was printed", x, e, coef.String(), scale)
		}
	}
}

func TestParseOthers(t *testing.T) {
	others := []string{
		"", "-", ".", "-.", "..", "--", "-.-", ".-", "0.", ".0", "-0.", "-.0", "5.", ".5", "-5.", "-.5", "1.2.3", "1..2", "1.2.", ".1.2", "..1", "1..", "0.0.0",
		"00", "01", "-01", "00.5", "-00.5", "01.5", "000", "007", "00.0", "-0", "-0.0", "-0.000", "-00", "-00.1", "-0." + strings.Repeat("0", api.MaxScale),
		"+1", "+0", "+1.5", "-+1", "+-1", "1+", "1.+5", "--1", "--0.5", "1-", "1.-5", "0.-5", "-1.-5", "1.5-", "0.0-5", "0.-", "0.0-", " 1", "1 ", "1. 5", "1 .5", "- 1", " ", "1 000", "\t1", "1\n", "1\r", "1.5\n", "\x001", "1\x00",
		"1e5", "1E5", "1.5e0", "a", "x1", "1x", "1.x", "x.1", "1.5x", "0x10", "0b1", "0o7", "1_000", "1.0_0", "1,5", "1'000", "1.5%", "1/2", "Inf", "NaN", "inf", "-Inf", "½", "١", "１", "1．5", "−1", "\xff", "1\xff", "1.\xff", "0.\xc3", "/", ":", "0./", "0.:", "9:", "/9",
	}
	for _, s := range others {
		x, e := dec.Parse(s)
		refused(t, "P7.3: Parse of "+strconv.Quote(s), x, e, api.ErrNumber)
	}
	for b := range 256 {
		if b >= '0' && b <= '9' {
			continue
		}
		c := string([]byte{byte(b)})
		for _, s := range []string{c, "1" + c, "1." + c, "1." + c + "5", "1.5" + c, "0.0" + c, "12" + c + "34.5", "1.23" + c + "45", "0." + c + "0", "-1." + c} {
			x, e := dec.Parse(s)
			if c == "." && !strings.Contains(strings.Replace(s, ".", "", 1), ".") && len(s) > 3 {
				continue // A point with digits on both sides, and no other one.
			}
			refused(t, "P7.3: Parse of "+strconv.Quote(s), x, e, api.ErrNumber)
		}
		for _, s := range []string{c + "1", c + "1.5"} {
			if x, e := dec.Parse(s); c != "-" {
				refused(t, "P7.3: Parse of "+strconv.Quote(s), x, e, api.ErrNumber)
			}
		}
	}
}

// TestParseScale: too many digits behind the point are ErrScale only where all else is a Dec's text.
func TestParseScale(t *testing.T) {
	most, over := strings.Repeat("7", api.MaxScale), strings.Repeat("7", api.MaxScale+1)
	noughts := strings.Repeat("0", api.MaxScale+1)
	for ahead, coef := range map[string]string{"0": "", "-0": "-", "1": "1", "-12": "-12", "18446744073709551616": "18446744073709551616"} {
		x, e := dec.Parse(ahead + "." + most)
		right(t, "P7.3: MaxScale digits behind "+ahead, x, e, coef+most, api.MaxScale)
		for _, behind := range []string{over, over + "7", noughts + "1", over + strings.Repeat("0", 1000)} {
			x, e := dec.Parse(ahead + "." + behind)
			refused(t, "P7.3: more than MaxScale digits behind "+ahead, x, e, api.ErrScale)
		}
	}
	x, e := dec.Parse("0." + noughts[1:])
	right(t, "P7.3: MaxScale noughts", x, e, "0", api.MaxScale)
	for _, s := range []string{"0." + noughts, "5." + noughts, "-5." + noughts, "-0." + noughts + "1"} {
		x, e := dec.Parse(s)
		refused(t, "P7.3: more than MaxScale digits, noughts", x, e, api.ErrScale)
	}
	for _, s := range []string{"-0." + noughts, "00." + over, "-00." + over, "." + over, "-." + over, "+1." + over, "1." + over + "x", "1." + over + ".", "1." + over + ".5", "1." + over + " ", "x." + over, "1.x" + over, "--1." + over, "01." + over} {
		x, e := dec.Parse(s)
		refused(t, "P7.3: no Dec's text, with more than MaxScale digits: "+s, x, e, api.ErrNumber)
	}
}

func TestParseLong(t *testing.T) {
	nines := strings.Repeat("9", api.MaxDigits)
	for _, x := range []struct {
		text, coef string
		scale      int
	}{{nines, nines, 0}, {"-" + nines[1:], "-" + nines[1:], 0}, {nines[3:] + ".00", nines[3:] + "00", 2}, {"-" + nines[4:] + ".05", "-" + nines[4:] + "05", 2}, {nines[api.MaxScale+1:] + "." + nines[:api.MaxScale], nines[1:], api.MaxScale}} {
		if len(x.text) != api.MaxDigits {
			t.Fatalf("a text of %d bytes", len(x.text))
		}
		d, e := dec.Parse(x.text)
		right(t, "P7.3: Parse of MaxDigits bytes", d, e, x.coef, x.scale)
		if d.Print() != x.text {
			t.Errorf("P7.3: MaxDigits bytes are printed otherwise: %.80s", d.Print())
		}
		for _, s := range []string{"9" + x.text, x.text + "0", "-" + x.text, x.text + "x", "." + x.text, x.text + ".", " " + x.text} {
			d, e := dec.Parse(s)
			refused(t, "P7.3: Parse of one byte more", d, e, api.ErrLong)
		}
	}
	for _, c := range []string{"0", "x", "-", ".", " ", "\xff", "\x00"} {
		for _, more := range []int{1, 2, 100000} {
			d, e := dec.Parse(strings.Repeat(c, api.MaxDigits+more))
			refused(t, "P7.3: Parse of too much that is no Dec's text", d, e, api.ErrLong)
		}
		d, e := dec.Parse(strings.Repeat(c, api.MaxDigits))
		refused(t, "P7.3: Parse of MaxDigits bytes that are no Dec's text", d, e, api.ErrNumber)
	}
	d, e := dec.Parse("0." + strings.Repeat("1", api.MaxDigits-2))
	refused(t, "P7.3: Parse of MaxDigits bytes, nearly all behind the point", d, e, api.ErrScale)
	d, e = dec.Parse("0." + strings.Repeat("1", api.MaxDigits-1))
	refused(t, "P7.3: Parse of more than MaxDigits bytes, nearly all behind the point", d, e, api.ErrLong)
}

// TestNoLength: what is reckoned and printed may be longer than what is parsed.
func TestNoLength(t *testing.T) {
	nines := of(t, strings.Repeat("9", api.MaxDigits-33)+"."+strings.Repeat("9", 32))
	square, e := nines.Mul(nines)
	// (10^n - 1) squared is n - 1 nines, an 8, n - 1 noughts and a 1.
	n := api.MaxDigits - 1
	text := strings.Repeat("9", n-1) + "8" + strings.Repeat("0", n-1) + "1"
	right(t, "P7.2: a long product", square, e, text, 64)
	if want := text[:2*n-64] + "." + text[2*n-64:]; square.Print() != want {
		t.Errorf("P7.3: a long product is printed otherwise: %.80s", square.Print())
	}
	q, e := square.Quo(nines, 32, round.Up)
	right(t, "P7.2: a long quotient", q, e, strings.Repeat("9", n), 32)
	wants(t, "P7.2: a long sum", square.Add(square.Sub(square)), text, 64)
	if v, _ := new(big.Int).SetString(text, 10); number(v).Cmp(square.Coef()) != 0 {
		t.Errorf("P7.1: a long coefficient: %.80s", square.Coef().Print())
	}
}
