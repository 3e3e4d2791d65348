package round_test

import (
	"math"
	"math/big"
	"math/rand"
	"strings"
	"testing"

	"chattel/api"
	"chattel/frac"
	"chattel/round"
	"chattel/whole"
)

// modes are all of them, with their words.
var modes = []struct {
	mode round.Mode
	word string
}{{round.Down, "down"}, {round.Up, "up"}, {round.HalfUp, "half-up"}, {round.HalfDown, "half-down"}, {round.HalfEven, "half-even"}}

// noModes are numbers that are no mode's.
var noModes = []round.Mode{round.Modes, round.Modes + 1, -1, -2, 1000, 1 << 32, -1 << 32, math.MaxInt, math.MaxInt - 1, math.MinInt, math.MinInt + 1}

// wrongScales are below 0 or above MaxScale; each one's lowest byte or half, taken for itself, may be a right one.
var wrongScales = []int{-1, -2, -api.MaxScale, api.MaxScale + 1, api.MaxScale + 2, 1000, 1 << 32, -1 << 32, math.MaxInt, math.MinInt}

// number is that of the library's own arithmetic, as an Int.
func number(v *big.Int) whole.Int {
	x, _ := whole.Parse(v.String())
	return x
}

// fraction is that of the library's own arithmetic, as a Frac.
func fraction(v *big.Rat) frac.Frac {
	x, _ := frac.Of(number(v.Num()), number(v.Denom()))
	return x
}

// ratio is the fraction that a text tells, by the library's own arithmetic.
func ratio(text string) *big.Rat {
	v, ok := new(big.Rat).SetString(text)
	if !ok {
		panic("no fraction: " + text)
	}
	return v
}

// wants checks that a call answered this number, and OK.
func wants(t *testing.T, what string, x whole.Int, e api.Errno, want string) {
	t.Helper()
	if x.Print() != want || e != api.OK {
		t.Errorf("%s: %.80s, error %d, want %.80s", what, x.Print(), e, want)
	}
}

// refused checks that a call answered this error, and 0 beside it.
func refused(t *testing.T, what string, x whole.Int, e, want api.Errno) {
	t.Helper()
	if e != want || x.Print() != "0" || x.Sign() != 0 {
		t.Errorf("%s: %.80s, error %d, want error %d", what, x.Print(), e, want)
	}
}

// rounded is v by a mode, as the document's words say it: of the two whole magnitudes beside that of v, the one that the mode takes.
func rounded(v *big.Rat, m round.Mode) string {
	magnitude := new(big.Rat).Abs(v)
	low := new(big.Int).Quo(magnitude.Num(), magnitude.Denom())
	high := new(big.Int).Add(low, big.NewInt(1))
	if magnitude.IsInt() {
		high = low
	}
	toLow := new(big.Rat).Sub(magnitude, new(big.Rat).SetInt(low))
	toHigh := new(big.Rat).Sub(new(big.Rat).SetInt(high), magnitude)
	nearer := toLow.Cmp(toHigh)
	taken := map[round.Mode]*big.Int{round.Down: low, round.Up: high}[m]
	switch {
	case taken != nil:
	case nearer < 0, nearer == 0 && m == round.HalfDown, nearer == 0 && m == round.HalfEven && low.Bit(0) == 0:
		taken = low
	default:
		taken = high
	}
	return new(big.Int).Mul(taken, big.NewInt(int64(v.Sign()))).String()
}

// wholes are magnitudes to round beside: the first ones, odd and even, and those where a limb or several begin or end.
func wholes() []*big.Int {
	var l []*big.Int
	for _, n := range []int64{0, 1, 2, 3, 4, 5, 9, 10, 99, 100, 12345, 1 << 40, math.MaxInt64 - 1, math.MaxInt64} {
		l = append(l, big.NewInt(n))
	}
	for _, bits := range []uint{63, 64, 65, 128, 192, 700} {
		edge := new(big.Int).Lsh(big.NewInt(1), bits)
		for near := int64(-2); near <= 2; near++ {
			l = append(l, new(big.Int).Add(edge, big.NewInt(near)))
		}
	}
	source := rand.New(rand.NewSource(6))
	for bits := uint(70); bits < 500; bits += 90 {
		l = append(l, new(big.Int).Rand(source, new(big.Int).Lsh(big.NewInt(1), bits)))
	}
	return l
}

// parts are from 0 up to less than 1: halves, a little more and a little less than a half, next to 0 and next to 1, with odd and even numbers below, of one limb and of several.
func parts() []*big.Rat {
	long := strings.Repeat("7", 90)
	l := []*big.Rat{new(big.Rat)}
	for _, text := range []string{
		"1/2", "1/3", "2/3", "1/4", "3/4", "2/5", "3/5", "49/100", "51/100", "1/10", "9/10",
		"4611686018427387903/9223372036854775807", "4611686018427387904/9223372036854775807", "1/9223372036854775807", "9223372036854775806/9223372036854775807",
		"9223372036854775808/18446744073709551617", "9223372036854775809/18446744073709551617", "9223372036854775807/18446744073709551616", "9223372036854775809/18446744073709551616",
		"1/1" + long, "1" + long + "/2" + long,
	} {
		l = append(l, ratio(text))
	}
	for _, tiny := range []string{"1/1000", "1/18446744073709551616", "1/1" + strings.Repeat("0", 80)} {
		l = append(l, new(big.Rat).Add(ratio("1/2"), ratio(tiny)), new(big.Rat).Sub(ratio("1/2"), ratio(tiny)), new(big.Rat).Sub(ratio("1"), ratio(tiny)), ratio(tiny))
	}
	return l
}

// samples are all whole magnitudes with all parts behind them, above 0 and below.
func samples() []*big.Rat {
	var l []*big.Rat
	for _, n := range wholes() {
		for _, part := range parts() {
			v := new(big.Rat).Add(new(big.Rat).SetInt(n), part)
			l = append(l, v, new(big.Rat).Neg(v))
		}
	}
	return l
}

func TestModesAreNumbered(t *testing.T) {
	for i, x := range modes {
		if int(x.mode) != i {
			t.Errorf("layer 6's functions: %s is %d, want %d", x.word, x.mode, i)
		}
	}
	if int(round.Modes) != len(modes) {
		t.Errorf("layer 6's functions: Modes is %d, want %d", round.Modes, len(modes))
	}
}

func TestWord(t *testing.T) {
	for _, x := range modes {
		if got := x.mode.Word(); got != x.word {
			t.Errorf("P6.1: Word of %d: %q, want %q", x.mode, got, x.word)
		}
	}
	for _, m := range noModes {
		if got := m.Word(); got != "" {
			t.Errorf("P6.1: Word of %d: %q", m, got)
		}
	}
}

func TestOf(t *testing.T) {
	for _, x := range modes {
		if m, ok := round.Of(x.word); m != x.mode || !ok {
			t.Errorf("P6.1: Of %q: %d, %t", x.word, m, ok)
		}
	}
}

// TestOfOthers: a text that is nearly a word is none.
func TestOfOthers(t *testing.T) {
	known := map[string]bool{}
	for _, x := range modes {
		known[x.word] = true
	}
	others := []string{"", " ", "-", "half", "half-", "-up", "-even", "even", "half up", "half_up", "halfup", "half--up", "half-odd", "downup", "down,up", "nearest", "0", "1", "Modes", "HalfUp", "\x00", "\xff\xfe", "dówn", strings.Repeat("up", 1<<16)}
	for _, x := range modes {
		w := x.word
		others = append(others, strings.ToUpper(w), strings.ToUpper(w[:1])+w[1:], " "+w, w+" ", "\t"+w, w+"\n", w+"\x00", "\x00"+w, w+"s", w+w, "x"+w, "`"+w+"`")
		for i := range w {
			others = append(others, w[:i], w[i:][1:], w[:i]+"x"+w[i+1:], w[:i]+w[i+1:], w[:i]+strings.ToUpper(w[i:i+1])+w[i+1:], w[:i]+" "+w[i:], w[:i]+"\xff"+w[i+1:])
		}
	}
	for _, s := range others {
		// What is left of half-up without its first letters is up, which is a word; the hyphen in capitals is the hyphen.
		if known[s] {
			continue
		}
		if m, ok := round.Of(s); m != 0 || ok {
			t.Errorf("P6.1: Of %.50q: %d, %t", s, m, ok)
		}
	}
}

func TestWholeByHand(t *testing.T) {
	for text, want := range map[string][5]string{
		"0": {"0", "0", "0", "0", "0"}, "1": {"1", "1", "1", "1", "1"}, "-1": {"-1", "-1", "-1", "-1", "-1"}, "6/3": {"2", "2", "2", "2", "2"}, "-6/3": {"-2", "-2", "-2", "-2", "-2"},
		"1/2": {"0", "1", "1", "0", "0"}, "-1/2": {"0", "-1", "-1", "0", "0"}, "3/2": {"1", "2", "2", "1", "2"}, "-3/2": {"-1", "-2", "-2", "-1", "-2"},
		"5/2": {"2", "3", "3", "2", "2"}, "-5/2": {"-2", "-3", "-3", "-2", "-2"}, "7/2": {"3", "4", "4", "3", "4"}, "-7/2": {"-3", "-4", "-4", "-3", "-4"},
		"1/3": {"0", "1", "0", "0", "0"}, "-1/3": {"0", "-1", "0", "0", "0"}, "2/3": {"0", "1", "1", "1", "1"}, "-2/3": {"0", "-1", "-1", "-1", "-1"},
		"2.4999": {"2", "3", "2", "2", "2"}, "-2.4999": {"-2", "-3", "-2", "-2", "-2"}, "2.5001": {"2", "3", "3", "3", "3"}, "-2.5001": {"-2", "-3", "-3", "-3", "-3"},
		"3.4999": {"3", "4", "3", "3", "3"}, "-3.4999": {"-3", "-4", "-3", "-3", "-3"}, "3.5001": {"3", "4", "4", "4", "4"}, "-3.5001": {"-3", "-4", "-4", "-4", "-4"},
		"18446744073709551615.5":  {"18446744073709551615", "18446744073709551616", "18446744073709551616", "18446744073709551615", "18446744073709551616"},
		"-18446744073709551615.5": {"-18446744073709551615", "-18446744073709551616", "-18446744073709551616", "-18446744073709551615", "-18446744073709551616"},
		"18446744073709551616.5":  {"18446744073709551616", "18446744073709551617", "18446744073709551617", "18446744073709551616", "18446744073709551616"},
	} {
		for i, x := range modes {
			n, e := round.Whole(fraction(ratio(text)), x.mode)
			wants(t, "P6.2: "+text+", "+x.word, n, e, want[i])
		}
	}
}

func TestWhole(t *testing.T) {
	for _, v := range samples() {
		f := fraction(v)
		for _, x := range modes {
			n, e := round.Whole(f, x.mode)
			wants(t, "P6.2: "+v.String()+", "+x.word, n, e, rounded(v, x.mode))
		}
		if f.Cmp(fraction(v)) != 0 {
			t.Errorf("P6.2: %v was changed: %s", v, f.Print())
		}
	}
}

// TestZero: 0 is 0 by every mode, however it came about, and has no sign.
func TestZero(t *testing.T) {
	half, tiny := fraction(ratio("1/2")), fraction(ratio("-1/18446744073709551617"))
	nothing, _ := frac.Of(whole.From(1), whole.Int{})
	for _, f := range []frac.Frac{{}, frac.Frac{}.Neg(), nothing, frac.From(whole.Int{}), half.Sub(half), tiny.Mul(frac.Frac{})} {
		for _, x := range modes {
			n, e := round.Whole(f, x.mode)
			wants(t, "P6.2: 0, "+x.word, n, e, "0")
			for _, scale := range []int{0, 1, api.MaxScale} {
				n, e := round.Scaled(f, scale, x.mode)
				wants(t, "P6.2: 0 scaled, "+x.word, n, e, "0")
			}
		}
	}
	n, _ := round.Whole(tiny, round.HalfUp)
	if n.Sign() != 0 || n.Cmp(whole.Int{}) != 0 || n.Neg().Print() != "0" {
		t.Errorf("P6.2: what is rounded to 0: %s, sign %d", n.Print(), n.Sign())
	}
}

func TestNoMode(t *testing.T) {
	for _, text := range []string{"0", "1", "-7", "1/2", "-5/2", "18446744073709551617/3"} {
		f := fraction(ratio(text))
		for _, m := range noModes {
			n, e := round.Whole(f, m)
			refused(t, "P6.2: Whole of "+text+" by no mode", n, e, api.ErrArg)
			for _, scale := range append([]int{0, 1, 2, api.MaxScale}, wrongScales...) {
				n, e := round.Scaled(f, scale, m)
				refused(t, "P6.2: Scaled of "+text+" by no mode", n, e, api.ErrArg)
			}
		}
	}
}

func TestWrongScale(t *testing.T) {
	for _, text := range []string{"0", "1", "-7", "1/2", "-5/2", "18446744073709551617/3"} {
		for _, x := range modes {
			for _, scale := range wrongScales {
				n, e := round.Scaled(fraction(ratio(text)), scale, x.mode)
				refused(t, "P6.2: Scaled of "+text+" by a wrong scale, "+x.word, n, e, api.ErrScale)
			}
		}
	}
}

func TestScaledByHand(t *testing.T) {
	for _, x := range []struct {
		text  string
		scale int
		want  [5]string
	}{
		{"2/3", 0, [5]string{"0", "1", "1", "1", "1"}}, {"2/3", 1, [5]string{"6", "7", "7", "7", "7"}}, {"-2/3", 3, [5]string{"-666", "-667", "-667", "-667", "-667"}}, {"1/3", 2, [5]string{"33", "34", "33", "33", "33"}},
		{"0.05", 0, [5]string{"0", "1", "0", "0", "0"}}, {"0.05", 1, [5]string{"0", "1", "1", "0", "0"}}, {"-0.15", 1, [5]string{"-1", "-2", "-2", "-1", "-2"}}, {"0.25", 1, [5]string{"2", "3", "3", "2", "2"}}, {"0.25", 2, [5]string{"25", "25", "25", "25", "25"}},
		{"12.345", 2, [5]string{"1234", "1235", "1235", "1234", "1234"}}, {"-12.355", 2, [5]string{"-1235", "-1236", "-1236", "-1235", "-1236"}}, {"7", 2, [5]string{"700", "700", "700", "700", "700"}}, {"1/8", 3, [5]string{"125", "125", "125", "125", "125"}},
	} {
		for i, y := range modes {
			n, e := round.Scaled(fraction(ratio(x.text)), x.scale, y.mode)
			wants(t, "P6.2: "+x.text+", scaled, "+y.word, n, e, x.want[i])
		}
	}
	sixes := strings.Repeat("6", api.MaxScale-1)
	for i, last := range []string{"6", "7", "7", "7", "7"} {
		n, e := round.Scaled(fraction(ratio("-5/3")), api.MaxScale, modes[i].mode)
		wants(t, "P6.2: -5/3, scaled as far as it goes, "+modes[i].word, n, e, "-1"+sixes+last)
	}
}

func TestScaled(t *testing.T) {
	for _, scale := range []int{0, 1, 2, 19, 20, api.MaxScale - 1, api.MaxScale} {
		ten := new(big.Rat).SetInt(new(big.Int).Exp(big.NewInt(10), big.NewInt(int64(scale)), nil))
		for i, v := range samples() {
			f := fraction(v)
			m := modes[(i+scale)%len(modes)]
			n, e := round.Scaled(f, scale, m.mode)
			wants(t, "P6.2: "+v.String()+" scaled, "+m.word, n, e, rounded(new(big.Rat).Mul(v, ten), m.mode))
		}
		for _, part := range parts() {
			// What has been scaled down is a half, or near one, just behind the last digit that counts.
			v := new(big.Rat).Quo(new(big.Rat).Sub(part, ratio("8")), ten)
			for _, m := range modes {
				n, e := round.Scaled(fraction(v), scale, m.mode)
				wants(t, "P6.2: "+v.String()+" scaled, "+m.word, n, e, rounded(new(big.Rat).Mul(v, ten), m.mode))
			}
		}
	}
}

// TestScaledByNought: times ten, no times, is Whole.
func TestScaledByNought(t *testing.T) {
	for _, v := range samples() {
		for _, x := range modes {
			n, e := round.Whole(fraction(v), x.mode)
			m, g := round.Scaled(fraction(v), 0, x.mode)
			if n.Cmp(m) != 0 || e != g {
				t.Errorf("P6.2: %v, %s: %s, error %d; scaled by 0 %s, error %d", v, x.word, n.Print(), e, m.Print(), g)
			}
		}
	}
}

// near checks P6.3 of a number that a fraction was rounded to.
func near(t *testing.T, f frac.Frac, m round.Mode, n whole.Int) {
	t.Helper()
	off := f.Sub(frac.From(n))
	if off.Sign() < 0 {
		off = off.Neg()
	}
	one, half := fraction(ratio("1")), fraction(ratio("1/2"))
	if off.Cmp(one) >= 0 || m >= round.HalfUp && off.Cmp(half) > 0 {
		t.Errorf("P6.3: %s, %s: %s, off by %s", f.Print(), m.Word(), n.Print(), off.Print())
	}
	if frac.From(f.Floor()).Cmp(f) == 0 && off.Sign() != 0 {
		t.Errorf("P6.3: the whole %s, %s: %s", f.Print(), m.Word(), n.Print())
	}
	if n.Sign() != 0 && n.Sign() != f.Sign() {
		t.Errorf("P6.2: %s, %s: another sign, %s", f.Print(), m.Word(), n.Print())
	}
}

func TestNear(t *testing.T) {
	for _, v := range samples() {
		f := fraction(v)
		for _, x := range modes {
			n, _ := round.Whole(f, x.mode)
			near(t, f, x.mode, n)
			scaled, _ := round.Scaled(f, 3, x.mode)
			near(t, f.Mul(fraction(ratio("1000"))), x.mode, scaled)
		}
	}
}

// TestLong: no length is too great.
func TestLong(t *testing.T) {
	nines := strings.Repeat("9", api.MaxDigits-1)
	above, _ := whole.Parse("-" + nines + "5")
	f, _ := frac.Of(above, whole.From(10))
	next := "-1" + strings.Repeat("0", api.MaxDigits-1)
	for i, want := range []string{"-" + nines, next, next, "-" + nines, next} {
		n, e := round.Whole(f, modes[i].mode)
		wants(t, "P6.2: a long half, "+modes[i].word, n, e, want)
		n, e = round.Scaled(f, api.MaxScale, modes[i].mode)
		wants(t, "P6.2: a long half, scaled, "+modes[i].word, n, e, "-"+nines+"5"+strings.Repeat("0", api.MaxScale-1))
	}
	tiny, _ := frac.Of(whole.From(1), above)
	for i, want := range []string{"0", "-1", "0", "0", "0"} {
		n, e := round.Scaled(tiny, api.MaxScale, modes[i].mode)
		wants(t, "P6.2: next to 0, "+modes[i].word, n, e, want)
	}
}
