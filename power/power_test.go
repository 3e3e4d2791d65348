package power_test

import (
	"encoding/binary"
	"math"
	"math/big"
	"math/rand"
	"slices"
	"strconv"
	"testing"

	"chattel/api"
	"chattel/digits"
	"chattel/frac"
	"chattel/nat"
	"chattel/power"
	"chattel/whole"
)

// maxBits is how many binary digits layer 3 lets a power have.
const maxBits = 64 * api.MaxLimbs

// extremes are ints that are no number of times, terms or the like.
var extremes = []int{math.MinInt, math.MinInt + 1, -1 << 32, -256, -2, -1, api.MaxPower + 1, api.MaxPower + 2, 1 << 16, 1 << 32, 1<<32 + 1, 1 << 62, math.MaxInt - 1, math.MaxInt}

// magnitude is a Nat by the library's own arithmetic.
func magnitude(n nat.Nat) *big.Int {
	var bytes []byte
	for _, limb := range slices.Backward(n.Limbs()) {
		bytes = binary.BigEndian.AppendUint64(bytes, limb)
	}
	return new(big.Int).SetBytes(bytes)
}

// number is that of the library's own arithmetic, as an Int.
func number(v *big.Int) whole.Int {
	limbs := make([]uint64, v.BitLen()/64+1)
	bytes := v.FillBytes(make([]byte, 8*len(limbs)))
	for i := range limbs {
		limbs[len(limbs)-1-i] = binary.BigEndian.Uint64(bytes[8*i:])
	}
	return whole.Of(nat.Of(limbs...), v.Sign() < 0)
}

// fraction is that of the library's own arithmetic, as a Frac.
func fraction(v *big.Rat) frac.Frac {
	x, _ := frac.Of(number(v.Num()), number(v.Denom()))
	return x
}

// fractions are those of the library's own arithmetic, as a list of Fracs.
func fractions(values []*big.Rat) []frac.Frac {
	var l []frac.Frac
	for _, v := range values {
		l = append(l, fraction(v))
	}
	return l
}

// fresh is a place for a result of the library's own arithmetic.
func fresh() *big.Rat { return new(big.Rat) }

// ratio is a fraction of two ints, the second one not 0.
func ratio(num, den int64) *big.Rat { return big.NewRat(num, den) }

// two is 2 to a power.
func two(times int) *big.Int { return new(big.Int).Lsh(big.NewInt(1), uint(times)) }

// wide is the greatest number of so many binary digits.
func wide(bits int) *big.Int { return new(big.Int).Sub(two(bits), big.NewInt(1)) }

// over is one number by another one.
func over(num, den *big.Int) *big.Rat { return new(big.Rat).SetFrac(num, den) }

// raised is a whole number times itself, so often.
func raised(v *big.Int, times int) *big.Int {
	return new(big.Int).Exp(v, big.NewInt(int64(times)), nil)
}

// wants checks that x is v, by all that it tells of itself.
func wants(t *testing.T, what string, x frac.Frac, v *big.Rat) {
	t.Helper()
	wantsTerms(t, what, x, v.Num(), v.Denom())
}

// wantsTerms checks that x has these lowest terms, by all that it tells of itself.
func wantsTerms(t *testing.T, what string, x frac.Frac, above, below *big.Int) {
	t.Helper()
	if num, den := magnitude(x.Num().Abs()), magnitude(x.Den()); num.CmpAbs(above) != 0 || den.Cmp(below) != 0 {
		t.Errorf("%s: magnitude %.80v / %.80v, want %.80v / %.80v", what, num, den, above, below)
	}
	if x.Sign() != above.Sign() || x.Num().Sign() != above.Sign() {
		t.Errorf("%s: sign %d of %.80v", what, x.Sign(), above)
	}
	if above.BitLen()+below.BitLen() > 4000 {
		return
	}
	text := above.String()
	if below.BitLen() > 1 {
		text += "/" + below.String()
	}
	if x.Print() != text {
		t.Errorf("%s: text %.80q, want %.80q", what, x.Print(), text)
	}
}

// refused checks that a call answered this error, and 0 beside it.
func refused(t *testing.T, what string, x frac.Frac, e, want api.Errno) {
	t.Helper()
	if e != want {
		t.Errorf("%s: error %d, want %d", what, e, want)
	}
	if x.Sign() != 0 || x.Print() != "0" || x.Cmp(frac.Frac{}) != 0 {
		t.Errorf("rule 2: %s: %.80q beside error %d", what, x.Print(), e)
	}
}

// samples are fractions, whole ones among them, below 0 and above it, short ones and long ones, and 0.
func samples() []*big.Rat {
	l := []*big.Rat{fresh()}
	for _, x := range [][2]int64{{1, 1}, {2, 1}, {3, 1}, {10, 1}, {360, 1}, {math.MaxInt64, 1}, {1, 2}, {1, 3}, {2, 3}, {3, 2}, {3, 4}, {7, 12}, {12, 7}, {1, 10}, {11, 10}, {2411, 2400}, {31, 365}, {1, math.MaxInt64}, {math.MaxInt64, 2}, {math.MaxInt64 - 1, math.MaxInt64}} {
		l = append(l, ratio(x[0], x[1]))
	}
	l = append(l, fresh().SetInt(two(64)), over(two(64), big.NewInt(3)), over(big.NewInt(3), two(64)), over(wide(64), two(128)), over(wide(300), wide(77)), over(two(190), big.NewInt(5)))
	for _, v := range l[1:] {
		l = append(l, fresh().Neg(v))
	}
	return l
}

// layer3 is the error of Pow of a number of so many binary digits, by layer 3's own sentence.
func layer3(bits, times int) api.Errno {
	switch {
	case times < 0:
		return api.ErrArg
	case times > api.MaxPower || bits*times > maxBits:
		return api.ErrMany
	}
	return api.OK
}

// checkPow checks Pow of v against the library's arithmetic, and its error against layer 3's.
func checkPow(t *testing.T, v *big.Rat, times int) {
	t.Helper()
	x := fraction(v)
	p, e := power.Pow(x, times)
	above, below := layer3(v.Num().BitLen(), times), layer3(v.Denom().BitLen(), times)
	_, aboveToo := digits.Pow(x.Num().Abs(), times)
	_, belowToo := digits.Pow(x.Den(), times)
	if above != aboveToo || below != belowToo {
		t.Errorf("P3.2: %.80v, %d times: errors %d and %d, want %d and %d", v, times, aboveToo, belowToo, above, below)
	}
	what := "P13.1: Pow of " + clipped(v) + ", " + strconv.Itoa(times) + " times"
	switch {
	case above != api.OK:
		refused(t, what+", refused above", p, e, above)
	case below != api.OK:
		refused(t, what+", refused below", p, e, below)
	default:
		wantsTerms(t, what, p, raised(v.Num(), times), raised(v.Denom(), times))
		if e != api.OK {
			t.Errorf("%s: error %d", what, e)
		}
	}
	wants(t, "rule 4: what is handed in", x, v)
}

func TestPowByHand(t *testing.T) {
	for _, x := range []struct {
		num, den int64
		times    int
		want     string
	}{
		{0, 1, 0, "1"}, {0, 1, 1, "0"}, {0, 1, 2, "0"}, {0, 1, 3, "0"}, {0, 1, api.MaxPower, "0"},
		{1, 1, 0, "1"}, {1, 1, 1, "1"}, {1, 1, api.MaxPower, "1"}, {-1, 1, 0, "1"}, {-1, 1, 1, "-1"}, {-1, 1, 2, "1"}, {-1, 1, api.MaxPower, "1"}, {-1, 1, api.MaxPower - 1, "-1"},
		{2, 1, 0, "1"}, {2, 1, 1, "2"}, {2, 1, 2, "4"}, {2, 1, 3, "8"}, {2, 1, 10, "1024"}, {2, 1, 64, "18446744073709551616"}, {-2, 1, 63, "-9223372036854775808"}, {-2, 1, 64, "18446744073709551616"},
		{10, 1, 20, "100000000000000000000"}, {7, 1, 5, "16807"}, {-7, 1, 5, "-16807"}, {-7, 1, 4, "2401"},
		{2, 3, 0, "1"}, {2, 3, 1, "2/3"}, {2, 3, 2, "4/9"}, {2, 3, 3, "8/27"}, {2, 3, 4, "16/81"}, {2, 3, 5, "32/243"}, {2, 3, 6, "64/729"}, {2, 3, 7, "128/2187"},
		{-2, 3, 0, "1"}, {-2, 3, 1, "-2/3"}, {-2, 3, 2, "4/9"}, {-2, 3, 3, "-8/27"}, {-2, 3, 4, "16/81"}, {-2, 3, 5, "-32/243"},
		{1, 2, 63, "1/9223372036854775808"}, {-1, 2, 63, "-1/9223372036854775808"}, {3, 2, 4, "81/16"}, {-3, 2, 3, "-27/8"}, {11, 10, 4, "14641/10000"}, {5, 7, 0, "1"},
	} {
		if p, e := power.Pow(fraction(ratio(x.num, x.den)), x.times); e != api.OK || p.Print() != x.want {
			t.Errorf("P13.1: %d/%d, %d times: %.80s, error %d, want %s", x.num, x.den, x.times, p.Print(), e, x.want)
		}
	}
	if p, e := power.Pow(frac.Frac{}, 0); e != api.OK || p.Print() != "1" {
		t.Errorf("P13.1: the zero Frac, 0 times: %s, error %d", p.Print(), e)
	}
	if p, e := power.Pow(frac.Frac{}, 5); e != api.OK || p.Sign() != 0 {
		t.Errorf("P13.1: the zero Frac, 5 times: %s, error %d", p.Print(), e)
	}
}

func TestPow(t *testing.T) {
	for _, v := range samples() {
		for times := range 70 {
			checkPow(t, v, times)
		}
		for _, times := range []int{127, 128, 129, 255, 256, 361, 1023, 1024, 1025, api.MaxPower - 1, api.MaxPower} {
			checkPow(t, v, times)
		}
	}
}

// TestPowIsAProduct: x times itself, so often, one by one.
func TestPowIsAProduct(t *testing.T) {
	for _, v := range samples() {
		x, product := fraction(v), frac.From(whole.From(1))
		for times := range 45 {
			if p, e := power.Pow(x, times); e != api.OK || p.Cmp(product) != 0 {
				t.Errorf("P13.1: %.80v, %d times: %.80s, error %d", v, times, p.Print(), e)
			}
			product = product.Mul(x)
		}
	}
}

// TestPowOfWrongTimes: below 0 and above MaxPower, whatever the number.
func TestPowOfWrongTimes(t *testing.T) {
	for _, v := range append(samples(), over(two(maxBits), big.NewInt(3)), over(big.NewInt(3), two(maxBits)), over(wide(maxBits+1), two(maxBits+1))) {
		for _, times := range extremes {
			checkPow(t, v, times)
		}
		for _, times := range []int{-1, -2, math.MinInt} {
			p, e := power.Pow(fraction(v), times)
			refused(t, "P13.1: times below 0", p, e, api.ErrArg)
		}
		for _, times := range []int{api.MaxPower + 1, math.MaxInt} {
			p, e := power.Pow(fraction(v), times)
			refused(t, "P13.1: times above MaxPower", p, e, api.ErrMany)
		}
	}
}

// TestPowAtTheLongest: the last power that layer 3 lets pass, and the first that it refuses, above alone, below alone, and both.
func TestPowAtTheLongest(t *testing.T) {
	for _, x := range []struct{ bits, times int }{{maxBits, 1}, {maxBits / 3, 3}, {256, 1024}, {255, 1025}, {maxBits / api.MaxPower, api.MaxPower}} {
		if x.bits*x.times > maxBits || (x.bits+1)*x.times <= maxBits {
			t.Fatalf("%d bits, %d times, are not at the edge", x.bits, x.times)
		}
		for _, sign := range []int64{1, -1} {
			for _, long := range []*big.Int{two(x.bits - 1), wide(x.bits), two(x.bits), wide(x.bits + 1)} {
				for _, short := range []*big.Int{big.NewInt(1), big.NewInt(7)} {
					s := big.NewInt(sign)
					checkPow(t, over(new(big.Int).Mul(s, long), short), x.times)
					checkPow(t, over(new(big.Int).Mul(s, short), long), x.times)
				}
			}
			s := big.NewInt(sign)
			checkPow(t, over(new(big.Int).Mul(s, wide(x.bits)), two(x.bits-1)), x.times)
			checkPow(t, over(new(big.Int).Mul(s, wide(x.bits)), two(x.bits)), x.times)
			checkPow(t, over(new(big.Int).Mul(s, two(x.bits)), wide(x.bits)), x.times)
			checkPow(t, over(new(big.Int).Mul(s, two(x.bits)), wide(x.bits+1)), x.times)
		}
	}
	for _, v := range []*big.Rat{over(wide(maxBits+9), big.NewInt(5)), over(big.NewInt(-5), wide(maxBits+9)), over(two(maxBits+9), wide(maxBits+9))} {
		checkPow(t, v, 0)
		checkPow(t, v, 1)
	}
}

// payment is the level payment by the library's own arithmetic.
func payment(amount, rate *big.Rat, n int) *big.Rat {
	if rate.Sign() == 0 {
		return fresh().Quo(amount, ratio(int64(n), 1))
	}
	grown := fresh().Add(ratio(1, 1), rate)
	above, below := raised(grown.Num(), n), raised(grown.Denom(), n)
	level := over(above, new(big.Int).Sub(above, below))
	return level.Mul(level, rate).Mul(level, amount)
}

// checkLevel checks Level against the library's arithmetic and the order of its errors.
func checkLevel(t *testing.T, amount, rate *big.Rat, n int) {
	t.Helper()
	a, r := fraction(amount), fraction(rate)
	p, e := power.Level(a, r, n)
	what := "P13.2: Level of " + clipped(amount) + " at " + clipped(rate) + ", " + strconv.Itoa(n) + " times"
	grown := fresh().Add(ratio(1, 1), rate)
	switch {
	case n < 1 || n > api.MaxTerms:
		refused(t, what, p, e, api.ErrArg)
	case rate.Sign() < 0:
		refused(t, what, p, e, api.ErrRate)
	case layer3(grown.Num().BitLen(), n) != api.OK || layer3(grown.Denom().BitLen(), n) != api.OK:
		refused(t, what, p, e, api.ErrMany)
	default:
		wants(t, what, p, payment(amount, rate, n))
		if e != api.OK {
			t.Errorf("%s: error %d", what, e)
		}
	}
	wants(t, "rule 4: the amount handed in", a, amount)
	wants(t, "rule 4: the rate handed in", r, rate)
}

// clipped is a fraction's text, or as much of it as can be read.
func clipped(v *big.Rat) string {
	if bits := v.Num().BitLen() + v.Denom().BitLen(); bits > 400 {
		return "a number of " + strconv.Itoa(bits) + " binary digits"
	}
	return v.RatString()
}

// amounts are numbers to be paid back: whole ones and fractions, 0, and below 0.
func amounts() []*big.Rat {
	return []*big.Rat{fresh(), ratio(1, 1), ratio(1000, 1), ratio(100000, 1), ratio(-1000, 1), ratio(-1, 1), ratio(1, 3), ratio(-1, 3), ratio(12345, 7), ratio(11, 100), over(wide(200), big.NewInt(9)), over(big.NewInt(-9), wide(200))}
}

// rates are those of a period, 0 and ordinary ones, low ones and high ones.
func rates() []*big.Rat {
	return []*big.Rat{fresh(), ratio(1, 10), ratio(1, 100), ratio(11, 2400), ratio(73, 24000), ratio(1, 3), ratio(1, 2), ratio(1, 1), ratio(3, 1), ratio(100, 1), ratio(1, 1000000), ratio(1, math.MaxInt64), ratio(math.MaxInt64, 1), over(wide(70), two(65)), over(big.NewInt(1), two(190))}
}

func TestLevelByHand(t *testing.T) {
	for _, x := range []struct {
		amount, num, den int64
		n                int
		want             string
	}{
		{1000, 1, 10, 2, "12100/21"}, {1000, 1, 10, 1, "1100"}, {1000, 1, 10, 3, "133100/331"}, {-1000, 1, 10, 2, "-12100/21"}, {0, 1, 10, 2, "0"}, {21, 1, 10, 2, "121/10"},
		{1000, 1, 1, 1, "2000"}, {1000, 1, 1, 2, "4000/3"}, {1000, 1, 1, 3, "8000/7"}, {3, 1, 2, 2, "27/10"},
		{1000, 0, 1, 1, "1000"}, {1000, 0, 1, 2, "500"}, {1000, 0, 1, 3, "1000/3"}, {-1000, 0, 1, 3, "-1000/3"}, {0, 0, 1, 3, "0"}, {1200, 0, 1, api.MaxTerms, "1"}, {1, 0, 1, api.MaxTerms, "1/1200"},
		{0, 1, 10, 1, "0"}, {0, 1, 10, api.MaxTerms, "0"}, {0, 100, 1, 7, "0"},
	} {
		if p, e := power.Level(fraction(ratio(x.amount, 1)), fraction(ratio(x.num, x.den)), x.n); e != api.OK || p.Print() != x.want {
			t.Errorf("P13.2: %d at %d/%d, %d times: %s, error %d, want %s", x.amount, x.num, x.den, x.n, p.Print(), e, x.want)
		}
	}
	if p, e := power.Level(fraction(ratio(7, 2)), frac.Frac{}, 3); e != api.OK || p.Print() != "7/6" {
		t.Errorf("P13.2: 7/2 at the zero Frac, 3 times: %s, error %d", p.Print(), e)
	}
	if p, e := power.Level(frac.Frac{}, fraction(ratio(1, 10)), 3); e != api.OK || p.Print() != "0" {
		t.Errorf("P13.2: the zero Frac at 1/10, 3 times: %s, error %d", p.Print(), e)
	}
}

func TestLevel(t *testing.T) {
	for _, rate := range rates() {
		for _, amount := range amounts() {
			for _, n := range []int{1, 2, 3, 4, 5, 11, 12, 24, 59, 60, 61, 120} {
				checkLevel(t, amount, rate, n)
			}
		}
		for _, n := range []int{240, 360, 419, 480, 600, api.MaxTerms - 1, api.MaxTerms} {
			checkLevel(t, ratio(1000000, 3), rate, n)
		}
	}
}

// TestLevelOfWrongTerms: ahead of a rate below 0, and of powers that are too long.
func TestLevelOfWrongTerms(t *testing.T) {
	for _, n := range append([]int{0, api.MaxTerms + 1}, extremes...) {
		for _, rate := range append(rates(), ratio(-1, 10), ratio(-1, 1), ratio(-5, 1), over(big.NewInt(-1), two(maxBits)), over(two(maxBits), big.NewInt(3)), over(big.NewInt(3), two(maxBits))) {
			for _, amount := range amounts() {
				p, e := power.Level(fraction(amount), fraction(rate), n)
				refused(t, "P13.2: a wrong number of terms", p, e, api.ErrArg)
			}
		}
	}
}

// TestLevelBelowZero: ahead of powers that are too long.
func TestLevelBelowZero(t *testing.T) {
	for _, rate := range []*big.Rat{ratio(-1, 10), ratio(-1, 1), ratio(-2, 1), ratio(-1, math.MaxInt64), ratio(math.MinInt64, 1), over(big.NewInt(-1), two(300)), over(new(big.Int).Neg(two(300)), big.NewInt(1)), over(big.NewInt(-1), two(maxBits)), over(new(big.Int).Neg(two(maxBits+1)), big.NewInt(7))} {
		for _, n := range []int{1, 2, 3, 1000, api.MaxTerms} {
			for _, amount := range amounts() {
				p, e := power.Level(fraction(amount), fraction(rate), n)
				refused(t, "P13.2: a rate below 0", p, e, api.ErrRate)
			}
		}
	}
}

// TestLevelAtTheLongest: the last power that layer 3 lets pass, and the first that it refuses.
func TestLevelAtTheLongest(t *testing.T) {
	one := big.NewInt(1)
	for _, x := range []struct{ bits, n int }{{maxBits, 1}, {maxBits / 2, 2}, {256, 1024}, {255, 1025}, {maxBits / api.MaxTerms, api.MaxTerms}} {
		amount := ratio(1000, 7)
		for _, more := range []int{0, 1} {
			// 1 + rate is whole, of all ones and of a one with noughts; below it stands 1.
			checkLevel(t, amount, fresh().SetInt(new(big.Int).Sub(wide(x.bits+more), one)), x.n)
			checkLevel(t, amount, fresh().SetInt(new(big.Int).Sub(two(x.bits+more-1), one)), x.n)
			// 1 + rate is just above 1: what stands below is as long, or one binary digit shorter.
			checkLevel(t, amount, over(one, two(x.bits+more-1)), x.n)
			checkLevel(t, amount, over(one, wide(x.bits+more-1)), x.n)
		}
	}
	p, e := power.Level(frac.Frac{}, fraction(over(one, two(maxBits))), 1)
	refused(t, "P13.2: nothing at a rate that is too long", p, e, api.ErrMany)
	p, e = power.Level(fraction(ratio(1, 1)), fraction(over(one, two(219))), api.MaxTerms)
	refused(t, "P13.2: MaxTerms at a rate that is too long", p, e, api.ErrMany)
}

// TestPaidBack: an amount that grows by the rate, and is less the level payment, each time.
func TestPaidBack(t *testing.T) {
	for _, rate := range rates() {
		for _, amount := range amounts() {
			for _, n := range []int{1, 2, 3, 7, 12, 36} {
				checkPaidBack(t, fraction(amount), fraction(rate), n)
			}
		}
	}
	for _, rate := range []*big.Rat{fresh(), ratio(11, 2400), ratio(1, 1)} {
		checkPaidBack(t, fraction(ratio(1000000, 1)), fraction(rate), 361)
	}
	checkPaidBack(t, fraction(ratio(-1000000, 3)), fraction(ratio(1, 200)), api.MaxTerms)
}

// checkPaidBack checks that nothing is left in the end, and, unless nothing was owed, not ahead of it.
func checkPaidBack(t *testing.T, amount, rate frac.Frac, n int) {
	t.Helper()
	level, e := power.Level(amount, rate, n)
	if e != api.OK {
		t.Fatalf("P13.2: %.80s at %.80s, %d times: error %d", amount.Print(), rate.Print(), n, e)
	}
	grows := rate.Add(frac.From(whole.From(1)))
	left := amount
	for k := range n {
		if left.Sign() != amount.Sign() {
			t.Fatalf("P13.4: %.80s at %.80s, %d times: after %d times the sign is %d", amount.Print(), rate.Print(), n, k, left.Sign())
		}
		left = left.Mul(grows).Sub(level)
	}
	if left.Sign() != 0 {
		t.Errorf("P13.4: %.80s at %.80s, %d times: %.80s is left", amount.Print(), rate.Print(), n, left.Print())
	}
}

// sum is the value of a polynomial by the library's own arithmetic, as the chapter words it.
func sum(x *big.Rat, coefs []*big.Rat) *big.Rat {
	all, power := fresh(), ratio(1, 1)
	for _, coef := range coefs {
		all.Add(all, fresh().Mul(coef, power))
		power.Mul(power, x)
	}
	return all
}

// checkPoly checks Poly against the library's arithmetic, and that the list handed in stays as it is, also behind its length.
func checkPoly(t *testing.T, x *big.Rat, values []*big.Rat) {
	t.Helper()
	behind := fraction(ratio(77, 13))
	memory := append(fractions(values), behind, behind)
	coefs := memory[:len(values)]
	at := fraction(x)
	wants(t, "P13.3: Poly of "+clipped(x), power.Poly(at, coefs), sum(x, values))
	wants(t, "P13.3: Poly of "+clipped(x)+", again", power.Poly(at, coefs), sum(x, values))
	for k, v := range values {
		wants(t, "P13.3: a coefficient that is handed in", memory[k], v)
	}
	for _, f := range memory[len(values):] {
		wants(t, "rule 4: what lies behind the coefficients", f, ratio(77, 13))
	}
	wants(t, "rule 4: the number that is handed in", at, x)
}

func TestPolyByHand(t *testing.T) {
	for _, x := range []struct {
		num, den int64
		coefs    []*big.Rat
		want     string
	}{
		{1, 2, nil, "0"}, {0, 1, nil, "0"}, {7, 1, []*big.Rat{}, "0"},
		{1, 2, []*big.Rat{ratio(5, 3)}, "5/3"}, {0, 1, []*big.Rat{ratio(5, 3)}, "5/3"}, {-9, 1, []*big.Rat{ratio(-5, 3)}, "-5/3"}, {9, 1, []*big.Rat{fresh()}, "0"},
		{1, 2, []*big.Rat{ratio(1, 1), ratio(2, 1), ratio(4, 1)}, "3"}, {-1, 2, []*big.Rat{ratio(1, 1), ratio(2, 1), ratio(4, 1)}, "1"}, {0, 1, []*big.Rat{ratio(1, 1), ratio(2, 1), ratio(4, 1)}, "1"}, {1, 1, []*big.Rat{ratio(1, 1), ratio(2, 1), ratio(4, 1)}, "7"}, {-1, 1, []*big.Rat{ratio(1, 1), ratio(2, 1), ratio(4, 1)}, "3"},
		{3, 1, []*big.Rat{ratio(1, 1), ratio(2, 1), ratio(4, 1)}, "43"}, {3, 1, []*big.Rat{ratio(4, 1), ratio(2, 1), ratio(1, 1)}, "19"}, {2, 3, []*big.Rat{ratio(0, 1), ratio(3, 2)}, "1"},
		{2, 1, []*big.Rat{fresh(), ratio(5, 1)}, "10"}, {2, 1, []*big.Rat{ratio(5, 1), fresh()}, "5"}, {2, 1, []*big.Rat{ratio(5, 1), fresh(), ratio(1, 1)}, "9"}, {2, 1, []*big.Rat{ratio(5, 1), fresh(), fresh(), ratio(1, 1), fresh(), fresh()}, "13"}, {2, 1, []*big.Rat{fresh(), fresh(), fresh()}, "0"},
		{2, 1, []*big.Rat{ratio(-4, 1), ratio(2, 1)}, "0"}, {10, 1, []*big.Rat{ratio(1, 1), ratio(2, 1), ratio(3, 1), ratio(4, 1)}, "4321"}, {1, 10, []*big.Rat{ratio(1, 1), ratio(2, 1), ratio(3, 1)}, "123/100"},
	} {
		if p := power.Poly(fraction(ratio(x.num, x.den)), fractions(x.coefs)); p.Print() != x.want {
			t.Errorf("P13.3: Poly of %d/%d, %v: %s, want %s", x.num, x.den, x.coefs, p.Print(), x.want)
		}
	}
	if p := power.Poly(frac.Frac{}, []frac.Frac{{}, {}}); p.Sign() != 0 || p.Print() != "0" {
		t.Errorf("P13.3: Poly of zero Fracs: %s", p.Print())
	}
	if p := power.Poly(fraction(ratio(2, 1)), []frac.Frac{{}, {}, fraction(ratio(3, 4)), {}}); p.Print() != "3" {
		t.Errorf("P13.3: Poly with zero Fracs in the list: %s", p.Print())
	}
}

func TestPoly(t *testing.T) {
	chance := rand.New(rand.NewSource(13))
	for _, x := range samples() {
		for size := range 9 {
			for range 3 {
				var coefs []*big.Rat
				for range size {
					coefs = append(coefs, ratio(chance.Int63n(2001)-1000, 1+chance.Int63n(300)))
				}
				for k := range coefs {
					if chance.Intn(4) == 0 {
						coefs[k] = fresh()
					}
				}
				checkPoly(t, x, coefs)
			}
		}
		checkPoly(t, x, samples())
	}
}

// TestPolyOfMany: more coefficients than a loan has terms, and powers that are longer than layer 3's; none is refused.
func TestPolyOfMany(t *testing.T) {
	var coefs, ones []*big.Rat
	for k := range int64(3 * api.MaxTerms) {
		coefs = append(coefs, ratio(k%17-8, 1+k%5))
		ones = append(ones, ratio(1, 1))
	}
	for _, x := range []*big.Rat{fresh(), ratio(2, 1), ratio(-3, 2), ratio(100, 101)} {
		checkPoly(t, x, coefs[:api.MaxTerms+1])
	}
	checkPoly(t, ratio(1, 1), coefs)
	checkPoly(t, ratio(-1, 1), coefs)
	checkPoly(t, ratio(-1, 2), coefs)
	// The powers of x, all added, are those of a series.
	checkPoly(t, ratio(2, 1), ones)
	checkPoly(t, over(wide(maxBits/5), big.NewInt(1)), coefs[:8])
	checkPoly(t, over(big.NewInt(-7), wide(maxBits/5)), coefs[:8])
}

// TestNothingIsKept: a call's answer doesn't hang on the calls ahead of it.
func TestNothingIsKept(t *testing.T) {
	amount, rate, coefs := fraction(ratio(1000, 1)), fraction(ratio(1, 10)), fractions([]*big.Rat{ratio(1, 1), ratio(2, 1), ratio(4, 1)})
	pow, _ := power.Pow(rate, 3)
	level, _ := power.Level(amount, rate, 2)
	poly := power.Poly(rate, coefs)
	for range 3 {
		power.Pow(fraction(ratio(-7, 9)), 5)
		power.Pow(rate, -1)
		power.Level(rate, amount, 9)
		power.Level(amount, rate, 0)
		coefs[1] = fraction(ratio(9, 1))
		power.Poly(amount, coefs)
		if again, e := power.Pow(rate, 3); e != api.OK || again.Cmp(pow) != 0 || pow.Print() != "1/1000" {
			t.Errorf("rule 7: Pow: %s, then %s, error %d", pow.Print(), again.Print(), e)
		}
		if again, e := power.Level(amount, rate, 2); e != api.OK || again.Cmp(level) != 0 || level.Print() != "12100/21" {
			t.Errorf("rule 7: Level: %s, then %s, error %d", level.Print(), again.Print(), e)
		}
		if poly.Print() != "31/25" {
			t.Errorf("rule 4: Poly's answer changed with the list handed in: %s", poly.Print())
		}
	}
}
