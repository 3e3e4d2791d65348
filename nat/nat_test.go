package nat_test

import (
	"math/big"
	"math/rand"
	"slices"
	"testing"

	"chattel/nat"
)

const top = 1<<64 - 1

// value is the number by the library's own arithmetic, from limbs as they are handed in.
func value(limbs []uint64) *big.Int {
	v := new(big.Int)
	for i := len(limbs) - 1; i >= 0; i-- {
		v.Lsh(v, 64)
		v.Or(v, new(big.Int).SetUint64(limbs[i]))
	}
	return v
}

// wants checks that n is v, in limbs without a 0 as the last one.
func wants(t *testing.T, promise string, n nat.Nat, v *big.Int) {
	t.Helper()
	l := n.Limbs()
	if len(l) > 0 && l[len(l)-1] == 0 {
		t.Errorf("%s: a 0 is the last of the limbs %v", promise, l)
	}
	if value(l).Cmp(v) != 0 {
		t.Errorf("%s: limbs %v, want %v", promise, l, v)
	}
}

func repeat(x uint64, n int) []uint64 { return slices.Repeat([]uint64{x}, n) }

// samples are lists of limbs: ordinary ones and the edges.
func samples() [][]uint64 {
	l := [][]uint64{
		nil, {}, {0}, {0, 0, 0}, {1}, {2}, {255}, {1 << 63}, {top - 1}, {top}, {0, 1}, {1, 1}, {top, 1},
		{5, 0, 0}, {5}, {0, 0, 7}, {0, 0, 7, 0}, {9, 0, 4, 0}, {top, top}, {top - 1, top}, {top, top - 1},
		{0, top}, {1, 0, 1}, {0, 1 << 63, 1 << 63}, {3, 2, 1}, {1, 2, 3},
		repeat(top, 3), repeat(top, 40), repeat(1<<63, 5), repeat(1, 7),
		append(repeat(0, 40), 1), append(repeat(0, 39), 1), append(repeat(top, 40), 0, 0),
	}
	source := rand.New(rand.NewSource(1))
	for n := 1; n < 30; n++ {
		x := make([]uint64, n)
		for i := range x {
			x[i] = source.Uint64()
		}
		l = append(l, x)
	}
	return l
}

func TestOfAndLimbs(t *testing.T) {
	for _, l := range samples() {
		wants(t, "P1.1", nat.Of(l...), value(l))
	}
	for _, x := range []struct{ limbs, want []uint64 }{
		{nil, nil}, {[]uint64{0, 0}, nil}, {[]uint64{5, 0, 0}, []uint64{5}},
		{[]uint64{0, 0, 7}, []uint64{0, 0, 7}}, {[]uint64{0, 3, 0, 4, 0}, []uint64{0, 3, 0, 4}}, {[]uint64{top, top}, []uint64{top, top}},
	} {
		if got := nat.Of(x.limbs...).Limbs(); !slices.Equal(got, x.want) {
			t.Errorf("P1.1: Of(%v) has the limbs %v", x.limbs, got)
		}
	}
	if got := nat.Of(1, 2, 3).Limbs(); !slices.Equal(got, []uint64{1, 2, 3}) {
		t.Errorf("P1.1: Of(1, 2, 3) has the limbs %v", got)
	}
	if !nat.Of().Zero() {
		t.Errorf("P1.1: Of() isn't 0")
	}
}

func TestZeroAndBits(t *testing.T) {
	for _, l := range samples() {
		n, v := nat.Of(l...), value(l)
		if n.Zero() != (v.Sign() == 0) {
			t.Errorf("P1.1: Zero of %v: %v", l, n.Zero())
		}
		if n.Bits() != v.BitLen() {
			t.Errorf("P1.1: Bits of %v: %d, want %d", l, n.Bits(), v.BitLen())
		}
	}
	for power := range 300 {
		limbs := make([]uint64, power/64+1)
		limbs[power/64] = 1 << (power % 64)
		n := nat.Of(limbs...)
		if n.Bits() != power+1 {
			t.Errorf("P1.1: Bits of 2^%d: %d", power, n.Bits())
		}
		if less, _ := n.Sub(nat.Of(1)); less.Bits() != power {
			t.Errorf("P1.1: Bits of 2^%d - 1: %d", power, less.Bits())
		}
	}
}

func TestCmp(t *testing.T) {
	for _, a := range samples() {
		for _, b := range samples() {
			if got, want := nat.Of(a...).Cmp(nat.Of(b...)), value(a).Cmp(value(b)); got != want {
				t.Errorf("P1.1: Cmp of %v and %v: %d, want %d", a, b, got, want)
			}
		}
	}
}

func TestAddSubMul(t *testing.T) {
	for _, a := range samples() {
		for _, b := range samples() {
			n, m, x, y := nat.Of(a...), nat.Of(b...), value(a), value(b)
			wants(t, "P1.2", n.Add(m), new(big.Int).Add(x, y))
			wants(t, "P1.2", n.Mul(m), new(big.Int).Mul(x, y))
			rest, ok := n.Sub(m)
			want := new(big.Int).Sub(x, y)
			if ok != (want.Sign() >= 0) {
				t.Errorf("P1.2: Sub of %v and %v: %v", a, b, ok)
			}
			if want.Sign() < 0 {
				want.SetInt64(0)
			}
			wants(t, "P1.2", rest, want)
			wants(t, "P1.1", n, x)
			wants(t, "P1.1", m, y)
		}
	}
}

func TestAddCarriesThroughAllLimbs(t *testing.T) {
	one := nat.Of(1)
	for n := 1; n <= 100; n++ {
		want := append(repeat(0, n), 1)
		ones := nat.Of(repeat(top, n)...)
		if got := ones.Add(one).Limbs(); !slices.Equal(got, want) {
			t.Errorf("P1.2: %d limbs of all ones and 1 are %v", n, got)
		}
		if got := one.Add(ones).Limbs(); !slices.Equal(got, want) {
			t.Errorf("P1.2: 1 and %d limbs of all ones are %v", n, got)
		}
	}
}

func TestSubBorrowsThroughAllLimbs(t *testing.T) {
	for n := 1; n <= 100; n++ {
		power := nat.Of(append(repeat(0, n), 1)...)
		rest, ok := power.Sub(nat.Of(1))
		if !ok || !slices.Equal(rest.Limbs(), repeat(top, n)) {
			t.Errorf("P1.2: 2^%d - 1 is %v, %v", 64*n, rest.Limbs(), ok)
		}
		if rest, ok = power.Sub(nat.Of(repeat(top, n)...)); !ok || !slices.Equal(rest.Limbs(), []uint64{1}) {
			t.Errorf("P1.2: 2^%d less the number ahead of it is %v, %v", 64*n, rest.Limbs(), ok)
		}
	}
}

func TestSubOfEqualAndOfGreater(t *testing.T) {
	for _, l := range samples() {
		n := nat.Of(l...)
		if rest, ok := n.Sub(nat.Of(l...)); !ok || !rest.Zero() || len(rest.Limbs()) != 0 {
			t.Errorf("P1.2: %v less itself is %v, %v", l, rest.Limbs(), ok)
		}
		if rest, ok := n.Sub(n.Add(nat.Of(1))); ok || !rest.Zero() || len(rest.Limbs()) != 0 {
			t.Errorf("P1.2: %v less one more than it is %v, %v", l, rest.Limbs(), ok)
		}
	}
}

func TestLongProducts(t *testing.T) {
	for _, n := range []int{1, 2, 63, 64, 65, 300} {
		for _, m := range []int{1, 7, 300} {
			a, b := repeat(top, n), repeat(top, m)
			wants(t, "P1.2", nat.Of(a...).Mul(nat.Of(b...)), new(big.Int).Mul(value(a), value(b)))
		}
	}
}

func TestZeroNat(t *testing.T) {
	var zero nat.Nat
	for _, l := range samples() {
		n, v := nat.Of(l...), value(l)
		wants(t, "P1.2", zero.Add(n), v)
		wants(t, "P1.2", n.Add(zero), v)
		wants(t, "P1.2", zero.Mul(n), new(big.Int))
		wants(t, "P1.2", n.Mul(zero), new(big.Int))
		rest, ok := n.Sub(zero)
		wants(t, "P1.2", rest, v)
		if !ok {
			t.Errorf("P1.2: %v less 0: false", l)
		}
		if _, ok := zero.Sub(n); ok != n.Zero() {
			t.Errorf("P1.2: 0 less %v: %v", l, ok)
		}
		if got := zero.Cmp(n); got != -v.Sign() {
			t.Errorf("P1.1: Cmp of 0 and %v: %d", l, got)
		}
	}
	if !zero.Zero() || zero.Bits() != 0 || len(zero.Limbs()) != 0 || zero.Cmp(nat.Of(0, 0)) != 0 {
		t.Errorf("P1.1: the zero Nat isn't 0")
	}
}

func TestLimbsAreNewMemory(t *testing.T) {
	n := nat.Of(7, 8, 9)
	first, second := n.Limbs(), n.Limbs()
	first[0] = 1
	first = append(first, 2)
	if second[0] != 7 || n.Limbs()[0] != 7 || len(n.Limbs()) != 3 {
		t.Errorf("P1.1: what Limbs answers is shared")
	}
	sum := n.Add(nat.Nat{})
	sum.Limbs()[1] = 5
	if !slices.Equal(n.Limbs(), []uint64{7, 8, 9}) || !slices.Equal(sum.Limbs(), []uint64{7, 8, 9}) {
		t.Errorf("P1.1: a number was changed")
	}
}

func TestListHandedInIsNeitherChangedNorKept(t *testing.T) {
	memory := []uint64{7, 8, 0, 6, 5}
	n := nat.Of(memory[:3]...)
	n.Add(nat.Of(top, top, top))
	n.Mul(n)
	if !slices.Equal(memory, []uint64{7, 8, 0, 6, 5}) {
		t.Errorf("P1.1: the list handed in, or what lies behind it, was changed: %v", memory)
	}
	for i := range memory {
		memory[i] = 1
	}
	if !slices.Equal(n.Limbs(), []uint64{7, 8}) {
		t.Errorf("P1.1: the list handed in was kept: %v", n.Limbs())
	}
}

func TestANumberByItself(t *testing.T) {
	for _, l := range samples() {
		n, v := nat.Of(l...), value(l)
		wants(t, "P1.2", n.Add(n), new(big.Int).Lsh(v, 1))
		wants(t, "P1.2", n.Mul(n), new(big.Int).Mul(v, v))
		if n.Cmp(n) != 0 {
			t.Errorf("P1.1: Cmp of %v and itself: %d", l, n.Cmp(n))
		}
		wants(t, "P1.1", n, v)
	}
}
