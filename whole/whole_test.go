package whole_test

import (
	"encoding/binary"
	"math"
	"math/big"
	"math/rand"
	"slices"
	"strings"
	"testing"

	"chattel/api"
	"chattel/nat"
	"chattel/whole"
)

const top = 1<<64 - 1

// magnitude is a Nat by the library's own arithmetic.
func magnitude(n nat.Nat) *big.Int {
	var bytes []byte
	for _, limb := range slices.Backward(n.Limbs()) {
		bytes = binary.BigEndian.AppendUint64(bytes, limb)
	}
	return new(big.Int).SetBytes(bytes)
}

// natural is the magnitude of the library's own number, as a Nat.
func natural(v *big.Int) nat.Nat {
	limbs := make([]uint64, v.BitLen()/64+1)
	bytes := v.FillBytes(make([]byte, 8*len(limbs)))
	for i := range limbs {
		limbs[len(limbs)-1-i] = binary.BigEndian.Uint64(bytes[8*i:])
	}
	return nat.Of(limbs...)
}

// number is that of the library's own arithmetic, as an Int.
func number(v *big.Int) whole.Int { return whole.Of(natural(v), v.Sign() < 0) }

// wants checks that x is v, by its magnitude and its sign.
func wants(t *testing.T, what string, x whole.Int, v *big.Int) {
	t.Helper()
	if magnitude(x.Abs()).CmpAbs(v) != 0 || x.Sign() != v.Sign() {
		t.Errorf("%s: magnitude %v and sign %d, want %v", what, magnitude(x.Abs()), x.Sign(), v)
	}
}

// fresh is a place for a result of the library's own arithmetic.
func fresh() *big.Int { return new(big.Int) }

// power is 2^n.
func power(n uint) *big.Int { return fresh().Lsh(big.NewInt(1), n) }

// samples are ordinary numbers and the edges, those of limbs and of ints among them, each one above 0 and below.
func samples() []*big.Int {
	var l []*big.Int
	for n := range int64(13) {
		l = append(l, big.NewInt(n))
	}
	l = append(l, big.NewInt(100), big.NewInt(1<<40))
	for _, n := range []uint{32, 62, 63, 64, 65, 127, 128, 129, 192, 320} {
		for by := int64(-2); by <= 2; by++ {
			l = append(l, fresh().Add(power(n), big.NewInt(by)))
		}
	}
	for _, limbs := range [][]uint64{{0, 7}, {top, top}, {top, 1}, {1, top}, {5, 0, 0, 3}, {top, top, top}, {0, 1 << 63}, {1, 0, 1 << 63}, {0, 0, 0, 0, 1}} {
		l = append(l, magnitude(nat.Of(limbs...)))
	}
	source := rand.New(rand.NewSource(4))
	for n := uint(20); n < 700; n += 31 {
		l = append(l, fresh().Rand(source, power(n)))
	}
	for _, v := range l {
		l = append(l, fresh().Neg(v))
	}
	return l
}

func TestOf(t *testing.T) {
	for _, v := range samples() {
		n := natural(v)
		wants(t, "P4.1: Of, not below", whole.Of(n, false), fresh().Abs(v))
		wants(t, "P4.1: Of, below", whole.Of(n, true), fresh().Neg(fresh().Abs(v)))
		if magnitude(n).CmpAbs(v) != 0 {
			t.Errorf("P4.1: Of changed %v", v)
		}
	}
}

// zeros are all the ways in which 0 comes about.
func zeros() []whole.Int {
	three, long := whole.From(3), whole.Of(nat.Of(0, 0, 5), true)
	parsed, _ := whole.Parse("0")
	even, none, _ := long.Floor(long)
	small, _, _ := three.Floor(long.Neg())
	return []whole.Int{
		{}, whole.From(0), whole.Of(nat.Nat{}, false), whole.Of(nat.Nat{}, true), whole.Of(nat.Of(0, 0), true), whole.From(0).Neg(), whole.Int{}.Neg().Neg(),
		three.Add(three.Neg()), three.Neg().Add(three), three.Sub(three), long.Sub(long), long.Add(long.Neg()),
		three.Mul(whole.Int{}), three.Neg().Mul(whole.Int{}), whole.Int{}.Mul(long), parsed, none, small, even.Sub(whole.From(1)),
	}
}

func TestZeroIsOneNumber(t *testing.T) {
	for i, x := range zeros() {
		wants(t, "P4.1: 0", x, fresh())
		wants(t, "P4.1: -0", x.Neg(), fresh())
		if n, ok := x.Int(); n != 0 || !ok || x.Print() != "0" || !x.Abs().Zero() {
			t.Errorf("P4.1: the zero %d is %d, %v, %q", i, n, ok, x.Print())
		}
		for j, y := range zeros() {
			if x.Cmp(y) != 0 {
				t.Errorf("P4.1: Cmp of the zeros %d and %d: %d", i, j, x.Cmp(y))
			}
			wants(t, "P4.2: 0 and 0", x.Add(y), fresh())
			wants(t, "P4.2: 0 less 0", x.Sub(y), fresh())
			wants(t, "P4.2: 0 times 0", x.Mul(y), fresh())
			if q, r, e := x.Floor(y); e != api.ErrZero || q.Sign() != 0 || r.Sign() != 0 {
				t.Errorf("P4.2: Floor of the zeros %d and %d: %d", i, j, e)
			}
		}
	}
}

// ints are ordinary ones and the edges.
func ints() []int {
	return []int{
		0, 1, -1, 2, -2, 7, -7, 1 << 20, -1 << 20, 1 << 40, -1 << 40, math.MaxInt32, math.MinInt32, math.MaxInt32 + 1, math.MinInt32 - 1,
		math.MaxInt, math.MaxInt - 1, math.MaxInt - 2, math.MinInt, math.MinInt + 1, math.MinInt + 2,
	}
}

func TestFromAndInt(t *testing.T) {
	for _, n := range ints() {
		x := whole.From(n)
		wants(t, "P4.1: From", x, big.NewInt(int64(n)))
		if back, ok := x.Int(); back != n || !ok {
			t.Errorf("P4.1: Int of %d: %d, %v", n, back, ok)
		}
	}
}

func TestIntOfAllSamples(t *testing.T) {
	for _, v := range samples() {
		var want int
		if v.IsInt64() {
			want = int(v.Int64())
		}
		if n, ok := number(v).Int(); n != want || ok != v.IsInt64() {
			t.Errorf("P4.1: Int of %v: %d, %v", v, n, ok)
		}
	}
}

func TestIntBeyondTheEdges(t *testing.T) {
	for i, x := range []whole.Int{
		whole.From(math.MaxInt).Add(whole.From(1)), whole.From(math.MinInt).Sub(whole.From(1)), whole.From(math.MinInt).Neg(), whole.From(math.MinInt).Mul(whole.From(2)),
		whole.Of(nat.Of(1<<63+1), false), whole.Of(nat.Of(1<<63+1), true), whole.Of(nat.Of(top), false), whole.Of(nat.Of(top), true),
		whole.Of(nat.Of(0, 1), false), whole.Of(nat.Of(0, 1), true), whole.Of(nat.Of(1, 1), false), whole.Of(nat.Of(1, 1), true), whole.Of(nat.Of(5, 0, 0, 1), true),
	} {
		if n, ok := x.Int(); n != 0 || ok {
			t.Errorf("P4.1: Int of number %d beyond the edges: %d, %v", i, n, ok)
		}
	}
}

func TestAbsSignNeg(t *testing.T) {
	for _, v := range samples() {
		x := number(v)
		wants(t, "P4.1: Neg", x.Neg(), fresh().Neg(v))
		wants(t, "P4.1: Neg of Neg", x.Neg().Neg(), v)
		wants(t, "P4.1: Neg's number", x, v)
		if magnitude(x.Abs()).Cmp(fresh().Abs(v)) != 0 {
			t.Errorf("P4.1: Abs of %v: %v", v, magnitude(x.Abs()))
		}
		if x.Sign() != v.Sign() {
			t.Errorf("P4.1: Sign of %v: %d", v, x.Sign())
		}
	}
}

func TestNothingChangesANumber(t *testing.T) {
	limbs := []uint64{7, 8, 9}
	x := whole.Of(nat.Of(limbs...), true)
	limbs[0] = 1
	x.Abs().Limbs()[1] = 1
	if !slices.Equal(x.Abs().Limbs(), []uint64{7, 8, 9}) || x.Sign() != -1 {
		t.Errorf("P4.1: a number was changed: %v", x.Abs().Limbs())
	}
}

func TestCmp(t *testing.T) {
	for _, v := range samples() {
		for _, w := range samples() {
			if got := number(v).Cmp(number(w)); got != v.Cmp(w) {
				t.Errorf("P4.1: Cmp of %v and %v: %d", v, w, got)
			}
		}
	}
	for i, x := range []struct {
		a, b whole.Int
		want int
	}{
		{whole.From(5), whole.From(-5), 1}, {whole.From(-5), whole.From(5), -1}, {whole.From(-9), whole.From(5), -1}, {whole.From(-5), whole.From(-9), 1}, {whole.From(-9), whole.From(-5), -1},
		{whole.Int{}, whole.From(-1), 1}, {whole.From(-1), whole.Int{}, -1}, {whole.Int{}, whole.From(1), -1}, {whole.From(1), whole.Int{}, 1},
		{whole.Of(nat.Of(0, 1), true), whole.From(-1), -1}, {whole.Of(nat.Of(0, 1), true), whole.Of(nat.Of(1, 1), true), 1}, {whole.Of(nat.Of(3, 2), true), whole.Of(nat.Of(3, 2), true), 0},
	} {
		if got := x.a.Cmp(x.b); got != x.want {
			t.Errorf("P4.1: %d: Cmp: %d, want %d", i, got, x.want)
		}
	}
}

func TestAddSubMul(t *testing.T) {
	for _, v := range samples() {
		for _, w := range samples() {
			x, y := number(v), number(w)
			wants(t, "P4.2: "+v.String()+" + "+w.String(), x.Add(y), fresh().Add(v, w))
			wants(t, "P4.2: "+v.String()+" - "+w.String(), x.Sub(y), fresh().Sub(v, w))
			wants(t, "P4.2: "+v.String()+" times "+w.String(), x.Mul(y), fresh().Mul(v, w))
			wants(t, "P4.2: the first number", x, v)
			wants(t, "P4.2: the second number", y, w)
		}
	}
}

func TestCarriesAndBorrowsOverLimbs(t *testing.T) {
	one := whole.From(1)
	for n := 1; n <= 20; n++ {
		next := fresh().Lsh(big.NewInt(1), uint(64*n))
		ones := whole.Of(nat.Of(slices.Repeat([]uint64{top}, n)...), false)
		wants(t, "P4.2: all ones and 1", ones.Add(one), next)
		wants(t, "P4.2: all ones below 0, less 1", ones.Neg().Sub(one), fresh().Neg(next))
		wants(t, "P4.2: what carries, less 1", number(next).Sub(one), fresh().Sub(next, big.NewInt(1)))
		wants(t, "P4.2: 1 less what carries", one.Sub(number(next)), fresh().Sub(big.NewInt(1), next))
		wants(t, "P4.2: what carries, and all ones below 0", number(next).Add(ones.Neg()), big.NewInt(1))
		wants(t, "P4.2: all ones below 0, and what carries", ones.Neg().Add(number(next)), big.NewInt(1))
		wants(t, "P4.2: all ones less what carries", ones.Sub(number(next)), big.NewInt(-1))
	}
}

// floors checks Floor of v by w: against the library, and by what the quotient and what is left must be.
func floors(t *testing.T, v, w *big.Int) {
	t.Helper()
	x, y := number(v), number(w)
	q, r, e := x.Floor(y)
	if w.Sign() == 0 {
		if e != api.ErrZero || q.Sign() != 0 || r.Sign() != 0 {
			t.Errorf("P4.2: Floor of %v by 0: %s, %s, %d", v, q.Print(), r.Print(), e)
		}
		return
	}
	want, left := fresh().DivMod(v, fresh().Abs(w), fresh())
	if w.Sign() < 0 {
		// By a number below 0, what is left is no greater than 0: it is that of -v, the other way round.
		want, left = fresh().DivMod(fresh().Neg(v), fresh().Abs(w), fresh())
		left.Neg(left)
	}
	wants(t, "P4.2: Floor of "+v.String()+" by "+w.String(), q, want)
	wants(t, "P4.2: what is left of "+v.String()+" by "+w.String(), r, left)
	if e != api.OK {
		t.Errorf("P4.2: Floor of %v by %v: error %d", v, w, e)
	}
	if y.Mul(q).Add(r).Cmp(x) != 0 {
		t.Errorf("P4.2: %v isn't %v times %s and %s", v, w, q.Print(), r.Print())
	}
	if r.Sign() != 0 && r.Sign() != y.Sign() || r.Abs().Cmp(y.Abs()) >= 0 {
		t.Errorf("P4.2: by %v, %s is left", w, r.Print())
	}
}

func TestFloor(t *testing.T) {
	for _, v := range samples() {
		for _, w := range samples() {
			floors(t, v, w)
			// One that comes out even, and its neighbours.
			even := fresh().Mul(v, w)
			floors(t, even, w)
			floors(t, fresh().Add(even, big.NewInt(1)), w)
			floors(t, fresh().Sub(even, big.NewInt(1)), w)
		}
	}
}

func TestFloorOfInts(t *testing.T) {
	for _, x := range []struct{ a, b, q, r int }{
		{7, 2, 3, 1}, {-7, 2, -4, 1}, {7, -2, -4, -1}, {-7, -2, 3, -1}, {6, 2, 3, 0}, {-6, 2, -3, 0}, {6, -2, -3, 0}, {-6, -2, 3, 0},
		{2, 7, 0, 2}, {-2, 7, -1, 5}, {2, -7, -1, -5}, {-2, -7, 0, -2}, {7, 7, 1, 0}, {-7, 7, -1, 0}, {7, -7, -1, 0}, {-7, -7, 1, 0},
		{0, 3, 0, 0}, {0, -3, 0, 0}, {9, 1, 9, 0}, {-9, 1, -9, 0}, {9, -1, -9, 0}, {-9, -1, 9, 0}, {1, 9, 0, 1}, {-1, 9, -1, 8}, {1, -9, -1, -8}, {-1, -9, 0, -1},
		{math.MaxInt, math.MinInt, -1, -1}, {math.MinInt, math.MaxInt, -2, math.MaxInt - 1}, {math.MinInt, 1, math.MinInt, 0},
	} {
		q, r, e := whole.From(x.a).Floor(whole.From(x.b))
		if q.Cmp(whole.From(x.q)) != 0 || r.Cmp(whole.From(x.r)) != 0 || e != api.OK {
			t.Errorf("P4.2: Floor of %d by %d: %s, %s, %d", x.a, x.b, q.Print(), r.Print(), e)
		}
	}
}

func TestZeroIntIsZero(t *testing.T) {
	var zero whole.Int
	for _, v := range samples() {
		x := number(v)
		wants(t, "P4.2: 0 + x", zero.Add(x), v)
		wants(t, "P4.2: x + 0", x.Add(zero), v)
		wants(t, "P4.2: 0 - x", zero.Sub(x), fresh().Neg(v))
		wants(t, "P4.2: x - 0", x.Sub(zero), v)
		wants(t, "P4.2: 0 times x", zero.Mul(x), fresh())
		wants(t, "P4.2: x times 0", x.Mul(zero), fresh())
		if zero.Cmp(x) != -v.Sign() || x.Cmp(zero) != v.Sign() {
			t.Errorf("P4.1: Cmp of 0 and %v: %d, %d", v, zero.Cmp(x), x.Cmp(zero))
		}
	}
}

func TestPrintAndParse(t *testing.T) {
	for _, v := range samples() {
		x, text := number(v), v.String()
		if got := x.Print(); got != text {
			t.Errorf("P4.3: Print of %s: %q", text, got)
		}
		again, e := whole.Parse(text)
		wants(t, "P4.3: Parse of "+text, again, v)
		if e != api.OK || again.Cmp(x) != 0 || again.Print() != text {
			t.Errorf("P4.3: Parse of %s: %s, %d", text, again.Print(), e)
		}
	}
	for _, n := range ints() {
		x, e := whole.Parse(whole.From(n).Print())
		if back, ok := x.Int(); back != n || !ok || e != api.OK {
			t.Errorf("P4.3: %d is parsed again to %d, %v, %d", n, back, ok, e)
		}
	}
}

// fails checks that s is parsed to no number, but to that error.
func fails(t *testing.T, s string, want api.Errno) {
	t.Helper()
	if x, e := whole.Parse(s); e != want || x.Sign() != 0 || !x.Abs().Zero() || x.Cmp(whole.Int{}) != 0 {
		t.Errorf("P4.3: Parse of %.50q (%d bytes): %.50s, %d, want 0, %d", s, len(s), x.Print(), e, want)
	}
}

func TestParseOfNoNumber(t *testing.T) {
	for _, s := range []string{
		"", "-", "--", "-0", "--0", "+0", "--1", "---1", "+1", "-+1", "+-1", "+", "01", "-01", "00", "-00", "-007", "-0123",
		" ", " 1", "1 ", "- 1", " -1", "-1 ", "-1 2", "1-", "-1-", "1-2", "5-5", "\t-1", "-1\n", "-\n", "\x00", "-\x00", "-1\x00",
		"x", "-x", "abc", "-a1", "-1a", "1a2", "-1.0", "1.5", "-.5", "1,000", "-1_000", "1e5", "-1e5", "0x10", "-0x1", "(1)", "/", ":", "-/", "-:",
		"−1", "–1", "٣", "-٣", "-½", "\xff", "-\xff", "-1\xff", "\x80", "\xad1", "-\xb1", "NaN", "-Inf",
	} {
		fails(t, s, api.ErrNumber)
	}
	for wrong := range 256 {
		if wrong >= '0' && wrong <= '9' {
			continue
		}
		b := string([]byte{byte(wrong)})
		fails(t, "-"+b, api.ErrNumber)
		fails(t, "-7"+b, api.ErrNumber)
		fails(t, "-"+b+"7", api.ErrNumber)
		if b != "-" {
			fails(t, b+"7", api.ErrNumber)
		}
	}
}

// TestParseOfTheLongest: a `-` ahead isn't one of the digits, so it makes no text too long.
func TestParseOfTheLongest(t *testing.T) {
	for _, digit := range []string{"1", "5", "9"} {
		s := strings.Repeat(digit, api.MaxDigits)
		for _, sign := range []string{"", "-"} {
			v, _ := fresh().SetString(sign+s, 10)
			x, e := whole.Parse(sign + s)
			wants(t, "P4.3: the longest number", x, v)
			if e != api.OK || x.Print() != sign+s {
				t.Errorf("P4.3: the longest number of %s%s is parsed with error %d", sign, digit, e)
			}
			fails(t, sign+s+digit, api.ErrLong)
		}
		fails(t, "--"+s, api.ErrLong)
		fails(t, "--"+s[1:], api.ErrNumber)
		fails(t, "+"+s, api.ErrLong)
		fails(t, "+"+s[1:], api.ErrNumber)
	}
	for _, part := range []string{"0", "x", " ", "-", "\xff"} {
		fails(t, "-"+strings.Repeat(part, api.MaxDigits), api.ErrNumber)
		fails(t, "-"+strings.Repeat(part, api.MaxDigits+1), api.ErrLong)
		fails(t, "x"+strings.Repeat(part, api.MaxDigits), api.ErrLong)
		fails(t, "-"+strings.Repeat("1", api.MaxDigits)+part, api.ErrLong)
	}
	fails(t, "-"+strings.Repeat("1", api.MaxText), api.ErrLong)
}

// TestPrintOfTooLong: Print has no bound; what it prints is then too long to be parsed.
func TestPrintOfTooLong(t *testing.T) {
	v := fresh().Neg(fresh().Exp(big.NewInt(10), big.NewInt(api.MaxDigits), nil))
	text := number(v).Print()
	if text != v.String() {
		t.Errorf("P4.3: Print of -10^%d is wrong", api.MaxDigits)
	}
	fails(t, text, api.ErrLong)
	least := number(v).Add(whole.From(1))
	if x, e := whole.Parse(least.Print()); e != api.OK || x.Cmp(least) != 0 {
		t.Errorf("P4.3: -(10^%d - 1) isn't parsed again: %d", api.MaxDigits, e)
	}
}
