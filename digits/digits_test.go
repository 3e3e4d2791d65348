package digits_test

import (
	"encoding/binary"
	"math"
	"math/big"
	"math/rand"
	"slices"
	"strings"
	"testing"

	"chattel/api"
	"chattel/digits"
	"chattel/nat"
)

const (
	top     = 1<<64 - 1
	maxBits = 64 * api.MaxLimbs
)

// value is the number by the library's own arithmetic.
func value(n nat.Nat) *big.Int {
	var bytes []byte
	for _, limb := range slices.Backward(n.Limbs()) {
		bytes = binary.BigEndian.AppendUint64(bytes, limb)
	}
	return new(big.Int).SetBytes(bytes)
}

// number is that of the library's own arithmetic, as a Nat.
func number(v *big.Int) nat.Nat {
	limbs := make([]uint64, v.BitLen()/64+1)
	bytes := v.FillBytes(make([]byte, 8*len(limbs)))
	for i := range limbs {
		limbs[len(limbs)-1-i] = binary.BigEndian.Uint64(bytes[8*i:])
	}
	return nat.Of(limbs...)
}

func raised(base, times int64) *big.Int {
	return new(big.Int).Exp(big.NewInt(base), big.NewInt(times), nil)
}

// near are the numbers from two below v up to two above it, without those below 0.
func near(v *big.Int) []*big.Int {
	var l []*big.Int
	for by := int64(-2); by <= 2; by++ {
		if x := new(big.Int).Add(v, big.NewInt(by)); x.Sign() >= 0 {
			l = append(l, x)
		}
	}
	return l
}

// samples are ordinary numbers and the edges: of bits, limbs, digits, and of groups of 19 digits.
func samples() []*big.Int {
	var l []*big.Int
	for n := range int64(120) {
		l = append(l, big.NewInt(n))
	}
	for _, n := range []uint64{123, 1000, 65535, 1 << 32, 9999999999999999999, 10000000000000000001, 12345678901234567890, top} {
		l = append(l, new(big.Int).SetUint64(n))
	}
	for times := range int64(400) {
		l = append(l, near(raised(10, times))...)
		l = append(l, near(raised(2, times))...)
	}
	for _, groups := range []int64{7, 8, 9, 15, 16, 17, 31, 32, 33, 63, 64, 65, 127, 128} {
		l = append(l, near(raised(10, 19*groups))...)
		l = append(l, new(big.Int).Mul(raised(10, 19*groups), big.NewInt(7)), new(big.Int).Add(raised(10, 19*groups), raised(10, 19)))
	}
	for _, limbs := range []int64{10, 100, 200} {
		l = append(l, near(raised(2, 64*limbs))...)
	}
	source := rand.New(rand.NewSource(1))
	for range 2000 {
		l = append(l, new(big.Int).Rand(source, raised(2, 1+source.Int63n(2000))))
		l = append(l, new(big.Int).Mul(big.NewInt(source.Int63()), raised(10, source.Int63n(300))))
	}
	return l
}

func TestPrintAndLength(t *testing.T) {
	for _, v := range samples() {
		n, want := number(v), v.String()
		if got := digits.Print(n); got != want {
			t.Errorf("P3.1: Print of %s: %s", want, got)
		}
		if got := digits.Length(n); got != len(want) {
			t.Errorf("P3.1: Length of %s: %d, want %d", want, got, len(want))
		}
		if value(n).Cmp(v) != 0 {
			t.Errorf("P3.1: %s was changed", want)
		}
	}
}

func TestPrintOfZero(t *testing.T) {
	for _, zero := range []nat.Nat{{}, nat.Of(), nat.Of(0, 0)} {
		if got := digits.Print(zero); got != "0" || digits.Length(zero) != 1 {
			t.Errorf("P3.1: Print and Length of 0: %s, %d", got, digits.Length(zero))
		}
	}
}

func TestLengthAroundPowersOfTen(t *testing.T) {
	for times := 1; times <= 200; times++ {
		v := raised(10, int64(times))
		if got := digits.Length(number(v)); got != times+1 {
			t.Errorf("P3.1: Length of 10^%d: %d", times, got)
		}
		if got := digits.Length(number(new(big.Int).Sub(v, big.NewInt(1)))); got != times {
			t.Errorf("P3.1: Length of 10^%d - 1: %d", times, got)
		}
	}
}

// longs are numbers with as many limbs as the limits name, and more.
func longs() []*big.Int {
	source := rand.New(rand.NewSource(2))
	l := near(raised(2, maxBits))
	l = append(l, raised(10, api.MaxDigits), raised(10, 19*4096), new(big.Int).Sub(raised(10, 19*4096), big.NewInt(1)))
	return append(l, new(big.Int).Rand(source, raised(2, maxBits)), new(big.Int).Rand(source, raised(2, 2*maxBits)))
}

func TestPrintOfLong(t *testing.T) {
	for i, v := range longs() {
		n, want := number(v), v.String()
		if digits.Print(n) != want {
			t.Errorf("P3.1: Print of the long number %d is wrong", i)
		}
		if got := digits.Length(n); got != len(want) {
			t.Errorf("P3.1: Length of the long number %d: %d, want %d", i, got, len(want))
		}
	}
}

// parses checks that s is parsed to v.
func parses(t *testing.T, s string, v *big.Int) {
	t.Helper()
	n, e := digits.Parse(s)
	if e != api.OK || value(n).Cmp(v) != 0 {
		t.Errorf("P3.1: Parse of %q: %v, %d", s, value(n), e)
	}
	if l := n.Limbs(); len(l) > 0 && l[len(l)-1] == 0 {
		t.Errorf("P3.1: Parse of %q: a 0 is the last of the limbs", s)
	}
}

func TestParse(t *testing.T) {
	for _, v := range samples() {
		parses(t, v.String(), v)
	}
	source := rand.New(rand.NewSource(3))
	for size := 1; size <= 200; size++ {
		s := []byte{'1' + byte(source.Intn(9))}
		for len(s) < size {
			s = append(s, '0'+byte(source.Intn(10)))
		}
		v, _ := new(big.Int).SetString(string(s), 10)
		parses(t, string(s), v)
	}
}

// fails checks that s is parsed to no number, but to that error.
func fails(t *testing.T, s string, want api.Errno) {
	t.Helper()
	if n, e := digits.Parse(s); e != want || !n.Zero() {
		t.Errorf("P3.1: Parse of %q: %v, %d, want 0, %d", s, n.Limbs(), e, want)
	}
}

func TestParseOfNoNumber(t *testing.T) {
	for _, s := range []string{
		"", "00", "01", "007", "0123456789", "00000000000000000000", "0" + strings.Repeat("9", 40), strings.Repeat("0", api.MaxDigits),
		"-1", "+1", "-0", "+0", "-", "+", " ", " 1", "1 ", "1 2", "\t1", "1\n", "1\r\n", "\x00", "1\x00", "1.0", "1.", ".5", ".", "1,000", "1_000", "1e5", "0x10", "0b1", "0o7",
		"x", "abc", "12a", "a12", "1a2", "O", "/", ":", "1/2", "1:2", "٣", "1٣", "３", "½", "²", "\xff", "1\xff", "\x80", "\xb1", "\xb0", "12\xb3", "NaN", "Inf", "null",
	} {
		fails(t, s, api.ErrNumber)
	}
}

// TestParseWithOneWrongByte: every byte that is no digit, at the beginning, in the middle and at the end, in texts of one group of digits and of several.
func TestParseWithOneWrongByte(t *testing.T) {
	for _, size := range []int{1, 2, 3, 18, 19, 20, 38, 39, 100} {
		for wrong := range 256 {
			if wrong >= '0' && wrong <= '9' {
				continue
			}
			for _, at := range []int{0, size / 2, size - 1} {
				s := []byte(strings.Repeat("7", size))
				s[at] = byte(wrong)
				fails(t, string(s), api.ErrNumber)
			}
		}
	}
	for at := range 60 {
		s := []byte(strings.Repeat("1", 60))
		s[at] = '-'
		fails(t, string(s), api.ErrNumber)
	}
}

func TestParseOfTheLongestAndOfLonger(t *testing.T) {
	for _, digit := range []string{"1", "5", "9"} {
		s := strings.Repeat(digit, api.MaxDigits)
		v, _ := new(big.Int).SetString(s, 10)
		parses(t, s, v)
		fails(t, s+digit, api.ErrLong)
	}
	power := "1" + strings.Repeat("0", api.MaxDigits-1)
	parses(t, power, raised(10, api.MaxDigits-1))
	fails(t, power+"0", api.ErrLong)
	for _, part := range []string{"0", "x", " ", "-", ".", "\xff", "\x00", "9"} {
		fails(t, strings.Repeat(part, api.MaxDigits+1), api.ErrLong)
		fails(t, part+strings.Repeat("1", api.MaxDigits), api.ErrLong)
		fails(t, strings.Repeat("1", api.MaxDigits)+part, api.ErrLong)
	}
	fails(t, strings.Repeat("1", api.MaxText), api.ErrLong)
	for _, part := range []string{"x", "-", "0", " ", "\xff"} {
		fails(t, part+strings.Repeat("1", api.MaxDigits-1), api.ErrNumber)
	}
	fails(t, strings.Repeat("1", api.MaxDigits-1)+"x", api.ErrNumber)
	fails(t, strings.Repeat("x", api.MaxDigits), api.ErrNumber)
}

// raises checks that Pow of n, so many times, is v.
func raises(t *testing.T, n nat.Nat, times int, v *big.Int) {
	t.Helper()
	p, e := digits.Pow(n, times)
	if e != api.OK || value(p).Cmp(v) != 0 {
		t.Errorf("P3.2: Pow of %v, %d times: %v, %d", n.Limbs(), times, p.Limbs(), e)
	}
}

// bases are numbers whose powers are asked for.
func bases() []nat.Nat {
	var l []nat.Nat
	for _, limbs := range [][]uint64{nil, {0, 0}, {1}, {2}, {3}, {7}, {10}, {100}, {1 << 32}, {1<<32 - 1}, {1 << 63}, {top}, {0, 1}, {1, 1}, {top, top}, {5, 0, 3}, {1, 2, 3, 4}} {
		l = append(l, nat.Of(limbs...))
	}
	return l
}

func TestPow(t *testing.T) {
	for _, n := range bases() {
		x := value(n)
		want := big.NewInt(1)
		for times := range 150 {
			raises(t, n, times, want)
			want.Mul(want, x)
		}
		for _, times := range []int{255, 256, 257, 511, 512, 1000, api.MaxPower - 1, api.MaxPower} {
			if x.BitLen()*times <= maxBits {
				raises(t, n, times, new(big.Int).Exp(x, big.NewInt(int64(times)), nil))
			}
		}
		if value(n).Cmp(x) != 0 {
			t.Errorf("P3.2: Pow changed %v", x)
		}
	}
	if p, e := digits.Pow(nat.Of(2), 64); digits.Print(p) != "18446744073709551616" || e != api.OK {
		t.Errorf("P3.2: Pow of 2, 64 times: %v, %d", p.Limbs(), e)
	}
}

// refuses checks that Pow of n, so many times, is an error.
func refuses(t *testing.T, n nat.Nat, times int, want api.Errno) {
	t.Helper()
	if p, e := digits.Pow(n, times); e != want || !p.Zero() {
		t.Errorf("P3.2: Pow of %d bits, %d times: %d bits, %d, want 0, %d", n.Bits(), times, p.Bits(), e, want)
	}
}

func TestPowOfTimesOutOfBounds(t *testing.T) {
	long := number(raised(2, maxBits))
	for _, n := range append(bases(), long) {
		for _, times := range []int{-1, -2, -1000, -1 << 32, math.MinInt} {
			refuses(t, n, times, api.ErrArg)
		}
		for _, times := range []int{api.MaxPower + 1, api.MaxPower + 2, api.MaxDigits, 1 << 32, math.MaxInt - 1, math.MaxInt} {
			refuses(t, n, times, api.ErrMany)
		}
	}
}

// TestPowAtTheMostBits: n's bits times times are just as many as may be, or too many, by one time or by one bit.
func TestPowAtTheMostBits(t *testing.T) {
	for _, times := range []int{1, 2, 4, 64, 128, 512, 1024, 3, 5, 100, api.MaxPower - 1, api.MaxPower} {
		most := maxBits / times
		least := raised(2, int64(most-1))
		greatest := new(big.Int).Sub(raised(2, int64(most)), big.NewInt(1))
		for _, x := range []*big.Int{least, greatest} {
			raises(t, number(x), times, new(big.Int).Exp(x, big.NewInt(int64(times)), nil))
		}
		refuses(t, number(new(big.Int).Lsh(least, 1)), times, api.ErrMany)
		refuses(t, number(greatest), maxBits/most+1, api.ErrMany)
	}
	refuses(t, nat.Of(0, 0, 0, 0, 1), api.MaxPower, api.ErrMany)
}

func TestPowOfLong(t *testing.T) {
	for _, v := range longs() {
		n := number(v)
		raises(t, n, 0, big.NewInt(1))
		if n.Bits() <= maxBits {
			raises(t, n, 1, v)
		} else {
			refuses(t, n, 1, api.ErrMany)
		}
	}
	for times := range 9 {
		x := raised(7, 5000)
		raises(t, number(x), times, new(big.Int).Exp(x, big.NewInt(int64(times)), nil))
	}
}

func TestTen(t *testing.T) {
	for _, times := range []int{0, 1, 2, 18, 19, 20, 30, 100, 1000, api.MaxPower, api.MaxPower + 1, 4000, api.MaxDigits - 1, api.MaxDigits} {
		n, e := digits.Ten(times)
		if e != api.OK || value(n).Cmp(raised(10, int64(times))) != 0 {
			t.Errorf("P3.2: Ten, %d times: %v, %d", times, n.Limbs(), e)
		}
	}
	for _, times := range []int{-1, -2, -api.MaxDigits, math.MinInt} {
		if n, e := digits.Ten(times); e != api.ErrArg || !n.Zero() {
			t.Errorf("P3.2: Ten, %d times: %v, %d", times, n.Limbs(), e)
		}
	}
	for _, times := range []int{api.MaxDigits + 1, api.MaxDigits + 2, 1 << 20, math.MaxInt} {
		if n, e := digits.Ten(times); e != api.ErrMany || !n.Zero() {
			t.Errorf("P3.2: Ten, %d times: %v, %d", times, n.Limbs(), e)
		}
	}
}

func TestPrintedIsParsedAgain(t *testing.T) {
	most := raised(10, api.MaxDigits)
	for _, v := range append(append(samples(), longs()...), near(most)...) {
		n := number(v)
		text := digits.Print(n)
		again, e := digits.Parse(text)
		if v.Cmp(most) >= 0 {
			if e != api.ErrLong || !again.Zero() {
				t.Errorf("P3.3: %d digits are parsed to %v, %d", len(text), again.Limbs(), e)
			}
			continue
		}
		if e != api.OK || again.Cmp(n) != 0 {
			t.Errorf("P3.3: %s is parsed to %v, %d", text, again.Limbs(), e)
		}
		if back := digits.Print(again); back != text {
			t.Errorf("P3.3: %s is printed as %s again", text, back)
		}
	}
}
