package frac_test

import (
	"encoding/binary"
	"math"
	"math/big"
	"math/rand"
	"slices"
	"strings"
	"testing"

	"chattel/api"
	"chattel/frac"
	"chattel/nat"
	"chattel/whole"
)

const top = 1<<64 - 1

// magnitude is a Nat by the library's own arithmetic.
func magnitude(n nat.Nat) *big.Int {
	var bytes []byte
	for _, limb := range slices.Backward(n.Limbs()) {
		bytes = binary.BigEndian.AppendUint64(bytes, limb)
	}
	return new(big.Int).SetBytes(bytes)
}

// value is an Int by the library's own arithmetic.
func value(x whole.Int) *big.Int {
	v := magnitude(x.Abs())
	if x.Sign() < 0 {
		v.Neg(v)
	}
	return v
}

// number is that of the library's own arithmetic, as an Int.
func number(v *big.Int) whole.Int {
	limbs := make([]uint64, v.BitLen()/64+1)
	bytes := v.FillBytes(make([]byte, 8*len(limbs)))
	for i := range limbs {
		limbs[len(limbs)-1-i] = binary.BigEndian.Uint64(bytes[8*i:])
	}
	return whole.Of(nat.Of(limbs...), v.Sign() < 0)
}

// ratio is one number by another one, by the library's own arithmetic.
func ratio(num, den *big.Int) *big.Rat { return new(big.Rat).SetFrac(num, den) }

// fresh is a place for a result of the library's own arithmetic.
func fresh() *big.Rat { return new(big.Rat) }

// fraction is that of the library's own arithmetic, as a Frac.
func fraction(v *big.Rat) frac.Frac {
	x, _ := frac.Of(number(v.Num()), number(v.Denom()))
	return x
}

// of is a fraction of two ints, the second one not 0.
func of(num, den int) frac.Frac {
	x, _ := frac.Of(whole.From(num), whole.From(den))
	return x
}

// wants checks that x is v (which the library has in lowest terms), by all that it tells of itself.
func wants(t *testing.T, what string, x frac.Frac, v *big.Rat) {
	t.Helper()
	if num, den := value(x.Num()), magnitude(x.Den()); num.Cmp(v.Num()) != 0 || den.Cmp(v.Denom()) != 0 {
		t.Errorf("%s: %.80v / %.80v, want %.80v", what, num, den, v)
	}
	if x.Sign() != v.Sign() {
		t.Errorf("%s: sign %d of %.80v", what, x.Sign(), v)
	}
	if text := x.Print(); text != v.RatString() {
		t.Errorf("%s: text %.80q, want %.80q", what, text, v.RatString())
	}
}

// refused checks that a call answered ErrZero, and 0 beside it.
func refused(t *testing.T, what string, x frac.Frac, e api.Errno) {
	t.Helper()
	if e != api.ErrZero {
		t.Errorf("%s: error %d, want %d", what, e, api.ErrZero)
	}
	wants(t, what+", beside the error", x, fresh())
}

// terms are numbers to stand above and below: ordinary ones and the edges, of one limb and of several, each one above 0 and below, and 0.
func terms() []*big.Int {
	var l []*big.Int
	for _, n := range []int64{1, 2, 3, 4, 6, 7, 12, 35, 360, 1 << 40, math.MaxInt64} {
		l = append(l, big.NewInt(n))
	}
	for _, limbs := range [][]uint64{{1 << 63}, {top}, {0, 1}, {1, 1}, {top, top}, {0, 7}, {6, 0, 0, 12}, {0, 0, 1 << 63}, {top, top, top, top}} {
		l = append(l, magnitude(nat.Of(limbs...)))
	}
	source := rand.New(rand.NewSource(5))
	for n := uint(50); n < 600; n += 130 {
		l = append(l, new(big.Int).Rand(source, new(big.Int).Lsh(big.NewInt(1), n)))
	}
	for _, v := range l {
		l = append(l, new(big.Int).Neg(v))
	}
	return append(l, new(big.Int))
}

// samples are fractions, whole ones among them, below 0 and above it, and 0.
func samples() []*big.Rat {
	l := []*big.Rat{fresh()}
	for _, x := range [][2]int64{{1, 1}, {1, 2}, {1, 3}, {2, 3}, {3, 2}, {3, 4}, {5, 6}, {1, 6}, {7, 1}, {7, 3}, {12, 5}, {5, 12}, {35, 6}, {1, 360}, {31, 365}, {100, 1}, {math.MaxInt64, 2}, {1, math.MaxInt64}, {math.MaxInt64 - 1, math.MaxInt64}} {
		l = append(l, big.NewRat(x[0], x[1]))
	}
	all := terms()
	for i, num := range all {
		den := all[(7*i+3)%len(all)]
		if num.Sign() > 0 && den.Sign() != 0 {
			l = append(l, fresh().Abs(ratio(num, den)))
		}
	}
	for _, v := range l[1:] {
		l = append(l, fresh().Neg(v))
	}
	return l
}

// zeros are all the ways in which 0 comes about.
func zeros() []frac.Frac {
	three, long := of(3, 7), fraction(ratio(magnitude(nat.Of(1, 2, 3)), magnitude(nat.Of(0, 5))))
	var none frac.Frac
	quotient, _ := none.Quo(three)
	long0, _ := of(0, 9).Quo(long.Neg())
	refused, _ := three.Quo(none)
	nothing, _ := frac.Of(whole.From(3), whole.Int{})
	return []frac.Frac{
		none, of(0, 1), of(0, -1), of(0, 12), of(0, -12), fraction(fresh()), frac.From(whole.Int{}), frac.From(whole.From(0).Neg()),
		none.Neg(), of(0, 5).Neg(), three.Add(three.Neg()), three.Sub(three), long.Sub(long), long.Neg().Add(long),
		three.Mul(none), none.Mul(three), long.Neg().Mul(of(0, -3)), quotient, long0, refused, nothing, frac.From(of(1, 2).Floor()),
	}
}

func TestOf(t *testing.T) {
	for _, num := range terms() {
		for _, den := range terms() {
			x, e := frac.Of(number(num), number(den))
			what := "P5.1: " + num.String() + " by " + den.String()
			if den.Sign() == 0 {
				refused(t, what, x, e)
				continue
			}
			wants(t, what, x, ratio(num, den))
			if e != api.OK {
				t.Errorf("%s: error %d", what, e)
			}
		}
	}
}

func TestOfCancelsWhatDividesBoth(t *testing.T) {
	for _, common := range terms() {
		if common.Sign() == 0 {
			continue
		}
		for _, v := range samples() {
			num, den := new(big.Int).Mul(v.Num(), common), new(big.Int).Mul(v.Denom(), common)
			x, e := frac.Of(number(num), number(den))
			wants(t, "P5.1: "+v.String()+", both times "+common.String(), x, v)
			if e != api.OK || x.Cmp(fraction(v)) != 0 {
				t.Errorf("P5.1: %v, both times %v: error %d, Cmp %d", v, common, e, x.Cmp(fraction(v)))
			}
		}
	}
}

func TestOfInts(t *testing.T) {
	for _, x := range []struct {
		num, den int
		above    string
		below    uint64
		sign     int
		text     string
	}{
		{1, 2, "1", 2, 1, "1/2"}, {-1, 2, "-1", 2, -1, "-1/2"}, {1, -2, "-1", 2, -1, "-1/2"}, {-1, -2, "1", 2, 1, "1/2"},
		{6, 4, "3", 2, 1, "3/2"}, {-6, 4, "-3", 2, -1, "-3/2"}, {6, -4, "-3", 2, -1, "-3/2"}, {-6, -4, "3", 2, 1, "3/2"},
		{6, 3, "2", 1, 1, "2"}, {-6, 3, "-2", 1, -1, "-2"}, {6, -3, "-2", 1, -1, "-2"}, {-6, -3, "2", 1, 1, "2"},
		{7, 1, "7", 1, 1, "7"}, {7, -1, "-7", 1, -1, "-7"}, {5, 5, "1", 1, 1, "1"}, {5, -5, "-1", 1, -1, "-1"}, {10, 1, "10", 1, 1, "10"}, {1, 10, "1", 10, 1, "1/10"},
		{0, 1, "0", 1, 0, "0"}, {0, -1, "0", 1, 0, "0"}, {0, 5, "0", 1, 0, "0"}, {0, -5, "0", 1, 0, "0"}, {0, math.MinInt, "0", 1, 0, "0"},
		{math.MinInt, math.MinInt, "1", 1, 1, "1"}, {math.MinInt, -1, "9223372036854775808", 1, 1, "9223372036854775808"}, {1, math.MinInt, "-1", 1 << 63, -1, "-1/9223372036854775808"},
		{math.MinInt, math.MaxInt, "-9223372036854775808", math.MaxInt, -1, "-9223372036854775808/9223372036854775807"},
	} {
		f := of(x.num, x.den)
		if f.Num().Print() != x.above || f.Den().Cmp(nat.Of(x.below)) != 0 || f.Sign() != x.sign || f.Print() != x.text {
			t.Errorf("P5.1: %d by %d: %s and %v, sign %d, text %q", x.num, x.den, f.Num().Print(), f.Den().Limbs(), f.Sign(), f.Print())
		}
	}
}

func TestOfByZero(t *testing.T) {
	none := of(1, 2).Sub(of(1, 2)).Num()
	for _, num := range terms() {
		for _, den := range []whole.Int{{}, whole.From(0), whole.From(0).Neg(), whole.Of(nat.Of(0, 0), true), none} {
			x, e := frac.Of(number(num), den)
			refused(t, "P5.1: "+num.String()+" by 0", x, e)
		}
	}
}

func TestFrom(t *testing.T) {
	for _, v := range terms() {
		wants(t, "P5.1: From "+v.String(), frac.From(number(v)), fresh().SetInt(v))
	}
	wants(t, "P5.1: From the zero Int", frac.From(whole.Int{}), fresh())
}

func TestZeroIsOneNumber(t *testing.T) {
	for i, x := range zeros() {
		wants(t, "P5.1: 0", x, fresh())
		wants(t, "P5.2: -0", x.Neg(), fresh())
		if x.Floor().Sign() != 0 || x.Print() != "0" || !slices.Equal(x.Den().Limbs(), []uint64{1}) || x.Sign() != 0 {
			t.Errorf("P5.1: the zero %d: %v, %q, %v", i, x.Floor().Print(), x.Print(), x.Den().Limbs())
		}
		for j, y := range zeros() {
			if x.Cmp(y) != 0 {
				t.Errorf("P5.1: Cmp of the zeros %d and %d: %d", i, j, x.Cmp(y))
			}
			wants(t, "P5.2: 0 and 0", x.Add(y), fresh())
			wants(t, "P5.2: 0 less 0", x.Sub(y), fresh())
			wants(t, "P5.2: 0 times 0", x.Mul(y), fresh())
			q, e := x.Quo(y)
			refused(t, "P5.2: 0 by 0", q, e)
		}
	}
}

func TestZeroWithOthers(t *testing.T) {
	for _, v := range samples() {
		x := fraction(v)
		for _, zero := range zeros() {
			wants(t, "P5.2: 0 + x", zero.Add(x), v)
			wants(t, "P5.2: x + 0", x.Add(zero), v)
			wants(t, "P5.2: 0 - x", zero.Sub(x), fresh().Neg(v))
			wants(t, "P5.2: x - 0", x.Sub(zero), v)
			wants(t, "P5.2: 0 times x", zero.Mul(x), fresh())
			wants(t, "P5.2: x times 0", x.Mul(zero), fresh())
			if zero.Cmp(x) != -v.Sign() || x.Cmp(zero) != v.Sign() {
				t.Errorf("P5.1: Cmp of 0 and %v: %d, %d", v, zero.Cmp(x), x.Cmp(zero))
			}
			q, e := x.Quo(zero)
			refused(t, "P5.2: "+v.String()+" by 0", q, e)
			if v.Sign() == 0 {
				continue
			}
			q, e = zero.Quo(x)
			wants(t, "P5.2: 0 by "+v.String(), q, fresh())
			if e != api.OK {
				t.Errorf("P5.2: 0 by %v: error %d", v, e)
			}
		}
	}
}

func TestCmp(t *testing.T) {
	for _, v := range samples() {
		for _, w := range samples() {
			if got := fraction(v).Cmp(fraction(w)); got != v.Cmp(w) {
				t.Errorf("P5.1: Cmp of %v and %v: %d", v, w, got)
			}
		}
	}
	for i, x := range []struct {
		a, b frac.Frac
		want int
	}{
		{of(1, 2), of(2, 4), 0}, {of(-1, 2), of(3, -6), 0}, {of(4, 2), frac.From(whole.From(2)), 0}, {of(0, 3), of(0, -7), 0},
		{of(1, 3), of(2, 3), -1}, {of(-1, 3), of(-2, 3), 1}, {of(1, 3), of(1, 4), 1}, {of(-1, 3), of(-1, 4), -1}, {of(5, 3), of(5, 7), 1}, {of(5, 3), of(-5, 7), 1}, {of(-5, 3), of(5, 7), -1},
		{of(1, 3), of(-2, 3), 1}, {of(-2, 3), of(1, 3), -1}, {of(1, 2), of(-1, 2), 1}, {of(-1, 2), of(1, 2), -1},
		{of(3, 2), of(2, 1), -1}, {of(5, 2), of(2, 1), 1}, {of(-3, 2), of(-1, 1), -1}, {of(333, 1000), of(1, 3), -1}, {of(334, 1000), of(1, 3), 1},
		{of(math.MaxInt, math.MaxInt-1), of(math.MaxInt-1, math.MaxInt-2), -1}, {of(1, math.MaxInt), of(1, math.MinInt), 1},
	} {
		if got := x.a.Cmp(x.b); got != x.want {
			t.Errorf("P5.1: %d: Cmp of %s and %s: %d, want %d", i, x.a.Print(), x.b.Print(), got, x.want)
		}
		if got := x.b.Cmp(x.a); got != -x.want {
			t.Errorf("P5.1: %d: Cmp of %s and %s: %d, want %d", i, x.b.Print(), x.a.Print(), got, -x.want)
		}
	}
}

func TestNeg(t *testing.T) {
	for _, v := range samples() {
		x := fraction(v)
		wants(t, "P5.2: Neg", x.Neg(), fresh().Neg(v))
		wants(t, "P5.2: Neg of Neg", x.Neg().Neg(), v)
		wants(t, "P5.2: Neg's fraction", x, v)
	}
}

func TestAddSubMulQuo(t *testing.T) {
	for _, v := range samples() {
		for _, w := range samples() {
			x, y := fraction(v), fraction(w)
			wants(t, "P5.2: "+v.String()+" + "+w.String(), x.Add(y), fresh().Add(v, w))
			wants(t, "P5.2: "+v.String()+" - "+w.String(), x.Sub(y), fresh().Sub(v, w))
			wants(t, "P5.2: "+v.String()+" times "+w.String(), x.Mul(y), fresh().Mul(v, w))
			if w.Sign() != 0 {
				q, e := x.Quo(y)
				wants(t, "P5.2: "+v.String()+" by "+w.String(), q, fresh().Quo(v, w))
				if e != api.OK {
					t.Errorf("P5.2: %v by %v: error %d", v, w, e)
				}
			}
			wants(t, "P5.2: the first fraction", x, v)
			wants(t, "P5.2: the second fraction", y, w)
		}
	}
}

func TestForthAndBack(t *testing.T) {
	for _, v := range samples() {
		for _, w := range samples() {
			x, y := fraction(v), fraction(w)
			wants(t, "P5.2: added and taken away", x.Add(y).Sub(y), v)
			wants(t, "P5.2: taken away and added", x.Sub(y).Add(y), v)
			if w.Sign() == 0 {
				continue
			}
			q, e := x.Mul(y).Quo(y)
			wants(t, "P5.2: multiplied and divided", q, v)
			r, f := x.Quo(y)
			wants(t, "P5.2: divided and multiplied", r.Mul(y), v)
			if e != api.OK || f != api.OK {
				t.Errorf("P5.2: %v and %v: errors %d and %d", v, w, e, f)
			}
		}
	}
}

func TestReckonedByHand(t *testing.T) {
	for _, x := range []struct {
		a, b               frac.Frac
		add, sub, mul, quo string
	}{
		{of(1, 2), of(1, 3), "5/6", "1/6", "1/6", "3/2"}, {of(-1, 2), of(1, 3), "-1/6", "-5/6", "-1/6", "-3/2"}, {of(1, 2), of(-1, 3), "1/6", "5/6", "-1/6", "-3/2"}, {of(-1, 2), of(-1, 3), "-5/6", "-1/6", "1/6", "3/2"},
		{of(1, 2), of(1, 2), "1", "0", "1/4", "1"}, {of(1, 2), of(-1, 2), "0", "1", "-1/4", "-1"}, {of(1, 3), of(2, 3), "1", "-1/3", "2/9", "1/2"}, {of(5, 6), of(1, 6), "1", "2/3", "5/36", "5"},
		{of(1, 6), of(1, 10), "4/15", "1/15", "1/60", "5/3"}, {of(1, 6), of(1, 3), "1/2", "-1/6", "1/18", "1/2"}, {of(7, 12), of(-1, 12), "1/2", "2/3", "-7/144", "-7"}, {of(1, 4), of(1, 6), "5/12", "1/12", "1/24", "3/2"},
		{of(2, 3), of(3, 2), "13/6", "-5/6", "1", "4/9"}, {of(-2, 3), of(3, 2), "5/6", "-13/6", "-1", "-4/9"}, {of(4, 9), of(3, 8), "59/72", "5/72", "1/6", "32/27"},
		{of(7, 3), of(1, 1), "10/3", "4/3", "7/3", "7/3"}, {of(7, 3), of(-1, 1), "4/3", "10/3", "-7/3", "-7/3"}, {of(6, 1), of(4, 1), "10", "2", "24", "3/2"}, {of(-6, 1), of(3, 1), "-3", "-9", "-18", "-2"},
		{of(3, 1), of(1, 3), "10/3", "8/3", "1", "9"}, {of(0, 1), of(-2, 5), "-2/5", "2/5", "0", "0"},
	} {
		quotient, e := x.a.Quo(x.b)
		got := [4]string{x.a.Add(x.b).Print(), x.a.Sub(x.b).Print(), x.a.Mul(x.b).Print(), quotient.Print()}
		if want := [4]string{x.add, x.sub, x.mul, x.quo}; got != want || e != api.OK {
			t.Errorf("P5.2: %s and %s: %v, error %d, want %v", x.a.Print(), x.b.Print(), got, e, want)
		}
	}
}

func TestQuoByOne(t *testing.T) {
	for _, v := range samples() {
		x := fraction(v)
		same, e := x.Quo(of(3, 3))
		wants(t, "P5.2: by 1", same, v)
		contrary, f := x.Quo(of(3, -3))
		wants(t, "P5.2: by -1", contrary, fresh().Neg(v))
		if e != api.OK || f != api.OK {
			t.Errorf("P5.2: %v by 1 and -1: errors %d and %d", v, e, f)
		}
		if v.Sign() == 0 {
			continue
		}
		one, e := x.Quo(x)
		wants(t, "P5.2: by itself", one, big.NewRat(1, 1))
		upsideDown, f := of(1, 1).Quo(x)
		wants(t, "P5.2: 1 by it", upsideDown, fresh().Inv(v))
		if e != api.OK || f != api.OK {
			t.Errorf("P5.2: %v by itself, 1 by it: errors %d and %d", v, e, f)
		}
	}
}

func TestFloor(t *testing.T) {
	for _, v := range samples() {
		x := fraction(v)
		// What is below is above 0, and so the library's quotient, whose rest is never below 0, is the floor.
		if got, want := value(x.Floor()), new(big.Int).Div(v.Num(), v.Denom()); got.Cmp(want) != 0 {
			t.Errorf("P5.2: Floor of %v: %v, want %v", v, got, want)
		}
		floor := frac.From(x.Floor())
		if floor.Cmp(x) > 0 || floor.Add(of(1, 1)).Cmp(x) <= 0 {
			t.Errorf("P5.2: Floor of %v: %s", v, floor.Print())
		}
	}
	for _, v := range terms() {
		if got := value(frac.From(number(v)).Floor()); got.Cmp(v) != 0 {
			t.Errorf("P5.2: Floor of the whole %v: %v", v, got)
		}
	}
}

func TestFloorOfInts(t *testing.T) {
	for _, x := range []struct{ num, den, want int }{
		{1, 2, 0}, {-1, 2, -1}, {1, -2, -1}, {-1, -2, 0}, {1, 3, 0}, {2, 3, 0}, {-1, 3, -1}, {-2, 3, -1}, {1, math.MaxInt, 0}, {-1, math.MaxInt, -1},
		{3, 2, 1}, {-3, 2, -2}, {7, 3, 2}, {-7, 3, -3}, {8, 3, 2}, {-8, 3, -3}, {9, 3, 3}, {-9, 3, -3}, {0, 7, 0}, {1, 1, 1}, {-1, 1, -1}, {4, 2, 2}, {-4, 2, -2},
		{math.MaxInt, 2, math.MaxInt / 2}, {math.MinInt, 2, math.MinInt / 2}, {math.MinInt + 1, 2, math.MinInt / 2}, {math.MinInt, 1, math.MinInt},
	} {
		if got := of(x.num, x.den).Floor(); got.Cmp(whole.From(x.want)) != 0 {
			t.Errorf("P5.2: Floor of %d by %d: %s, want %d", x.num, x.den, got.Print(), x.want)
		}
	}
	if got := (frac.Frac{}).Floor(); got.Sign() != 0 || got.Print() != "0" {
		t.Errorf("P5.2: Floor of the zero Frac: %s", got.Print())
	}
}

// TestManySteps: what comes out of many steps is as exact, and in as low terms, as what comes out of one.
func TestManySteps(t *testing.T) {
	sum, want, product := frac.Frac{}, fresh(), of(1, 1)
	for n := 1; n <= 300; n++ {
		sum, want = sum.Add(of(1, n)), fresh().Add(want, big.NewRat(1, int64(n)))
		wants(t, "P5.2: 1 + 1/2 + 1/3 and so on", sum, want)
		product = product.Mul(of(n, n+1))
		wants(t, "P5.2: 1/2 times 2/3 and so on", product, big.NewRat(1, int64(n+1)))
	}
	for n := 300; n >= 1; n-- {
		sum = sum.Sub(of(1, n))
		product, _ = product.Quo(of(-n, n+1))
	}
	wants(t, "P5.2: the sum, all taken away again", sum, fresh())
	wants(t, "P5.2: the product, divided by all again, each below 0", product, big.NewRat(1, 1))
}

func TestLongFractions(t *testing.T) {
	source := rand.New(rand.NewSource(55))
	long := func(limbs uint) *big.Int {
		v := new(big.Int).Rand(source, new(big.Int).Lsh(big.NewInt(1), 64*limbs))
		return v.SetBit(v, 0, 1)
	}
	for i := range uint(12) {
		common := long(10 + 5*i)
		v := ratio(new(big.Int).Mul(long(60), common), new(big.Int).Neg(long(40+i)))
		w := ratio(long(30), new(big.Int).Mul(long(20), common))
		x, y := fraction(v), fraction(w)
		wants(t, "P5.2: a long sum", x.Add(y), fresh().Add(v, w))
		wants(t, "P5.2: a long difference", x.Sub(y), fresh().Sub(v, w))
		wants(t, "P5.2: a long product", x.Mul(y), fresh().Mul(v, w))
		q, e := x.Quo(y)
		wants(t, "P5.2: a long quotient", q, fresh().Quo(v, w))
		wants(t, "P5.2: what is added and taken away", x.Add(y).Sub(y), v)
		if e != api.OK || x.Cmp(y) != v.Cmp(w) || y.Cmp(x) != w.Cmp(v) || value(x.Floor()).Cmp(new(big.Int).Div(v.Num(), v.Denom())) != 0 {
			t.Errorf("P5.2: long fractions %d: error %d, Cmp %d, or the floor", i, e, x.Cmp(y))
		}
	}
}

// TestPrintOfTheLongest: a fraction's text has no bound, neither above nor below.
func TestPrintOfTheLongest(t *testing.T) {
	nines := strings.Repeat("9", api.MaxDigits)
	x, _ := whole.Parse("-" + nines)
	next := whole.From(1).Sub(x)
	f, e := frac.Of(x, next)
	if want := "-" + nines + "/1" + strings.Repeat("0", api.MaxDigits); f.Print() != want || e != api.OK {
		t.Errorf("P5.1: a text of %d bytes, error %d, want %d bytes", len(f.Print()), e, len(want))
	}
	if f.Floor().Cmp(whole.From(-1)) != 0 {
		t.Errorf("P5.2: the floor of what is just above -1: %.50s", f.Floor().Print())
	}
}

func TestNothingChangesAFraction(t *testing.T) {
	limbs := []uint64{7, 8, 9}
	x, _ := frac.Of(whole.Of(nat.Of(limbs...), true), whole.Of(nat.Of(5, 1), false))
	text := x.Print()
	limbs[0] = 1
	x.Num().Abs().Limbs()[0] = 1
	x.Den().Limbs()[0] = 1
	if x.Print() != text {
		t.Errorf("P5.1: a fraction was changed: %s, want %s", x.Print(), text)
	}
	var zero frac.Frac
	zero.Den().Limbs()[0] = 3
	wants(t, "P5.1: the zero Frac", zero, fresh())
}
