package quot_test

import (
	"encoding/binary"
	"math"
	"math/big"
	"math/rand"
	"slices"
	"testing"

	"chattel/api"
	"chattel/nat"
	"chattel/quot"
)

const (
	top      = 1<<64 - 1
	maxShift = 64 * api.MaxLimbs
)

// value is the number by the library's own arithmetic.
func value(n nat.Nat) *big.Int {
	var bytes []byte
	for _, limb := range slices.Backward(n.Limbs()) {
		bytes = binary.BigEndian.AppendUint64(bytes, limb)
	}
	return new(big.Int).SetBytes(bytes)
}

// number is that of the library's own arithmetic, as a Nat.
func number(v *big.Int) nat.Nat {
	limbs := make([]uint64, v.BitLen()/64+1)
	bytes := v.FillBytes(make([]byte, 8*len(limbs)))
	for i := range limbs {
		limbs[len(limbs)-1-i] = binary.BigEndian.Uint64(bytes[8*i:])
	}
	return nat.Of(limbs...)
}

// wants checks that n is v, in limbs without a 0 as the last one.
func wants(t *testing.T, what string, n nat.Nat, v *big.Int) {
	t.Helper()
	if l := n.Limbs(); len(l) > 0 && l[len(l)-1] == 0 {
		t.Errorf("%s: a 0 is the last of the limbs %v", what, l)
	}
	if value(n).Cmp(v) != 0 {
		t.Errorf("%s: %v, want %v", what, value(n), v)
	}
}

func repeat(x uint64, n int) []uint64 { return slices.Repeat([]uint64{x}, n) }

// but is n limbs x, the last one first, the first one last.
func but(x uint64, n int, first, last uint64) []uint64 {
	l := repeat(x, n)
	l[n-1] = last
	l[0] = first
	return l
}

// random is n limbs, each one of them all ones or noughts, or with a few bits, or any.
func random(source *rand.Rand, n int) []uint64 {
	l := make([]uint64, n)
	for i := range l {
		l[i] = []uint64{0, 1, top, top - 1, 1 << 63, 1<<63 - 1, source.Uint64(), source.Uint64() >> source.Intn(64)}[source.Intn(8)]
	}
	return l
}

// samples are ordinary numbers and the edges.
func samples() []nat.Nat {
	l := [][]uint64{nil, {1}, {2}, {3}, {5}, {7}, {10}, {12}, {18}, {100}, {1 << 32}, {1 << 63}, {1<<63 + 1}, {top - 1}, {top}}
	for n := 2; n < 7; n++ {
		l = append(l, repeat(top, n), but(0, n, 0, 1), but(0, n, 1, 1), but(0, n, top, 1), but(0, n, 0, 1<<63), but(0, n, 1, 1<<63))
		l = append(l, but(0, n, 0, top), but(0, n, top, top), but(top, n, 0, top), but(top, n, top, 1), but(top, n, 0, 1), but(top, n, top-1, top))
		l = append(l, but(top, n, top, 1<<63), but(top, n, top, 1<<63-1), but(top, n, 0, 1<<63), but(1<<63, n, 1<<63, 1<<63), but(1, n, 1, 1))
	}
	source := rand.New(rand.NewSource(2))
	for n := 1; n < 20; n++ {
		l = append(l, random(source, n))
	}
	var numbers []nat.Nat
	for _, limbs := range l {
		numbers = append(numbers, nat.Of(limbs...))
	}
	return numbers
}

// divides checks Div of a by b, which isn't 0.
func divides(t *testing.T, a, b nat.Nat) {
	t.Helper()
	x, y := value(a), value(b)
	q, r, e := quot.Div(a, b)
	if e != api.OK {
		t.Errorf("P2.1: Div of %v by %v: error %d", x, y, e)
	}
	wantQ, wantR := new(big.Int).QuoRem(x, y, new(big.Int))
	wants(t, "P2.1: quotient", q, wantQ)
	wants(t, "P2.1: rest", r, wantR)
	wants(t, "P2.1: what was divided", a, x)
	wants(t, "P2.1: by what was divided", b, y)
	if t.Failed() {
		t.Fatalf("P2.1: Div of %v by %v", x, y)
	}
}

func TestDiv(t *testing.T) {
	q, r, e := quot.Div(nat.Of(100), nat.Of(7))
	if !slices.Equal(q.Limbs(), []uint64{14}) || !slices.Equal(r.Limbs(), []uint64{2}) || e != api.OK {
		t.Errorf("P2.1: Div of 100 by 7: %v, %v, %d", q.Limbs(), r.Limbs(), e)
	}
	for _, a := range samples() {
		for _, b := range samples() {
			if !b.Zero() {
				divides(t, a, b)
			}
		}
	}
}

func TestDivOfProductsAndTheirNeighbours(t *testing.T) {
	one := nat.Of(1)
	for _, a := range samples() {
		for _, b := range samples() {
			if a.Zero() || b.Zero() {
				continue
			}
			product := a.Mul(b)
			q, r, e := quot.Div(product, b)
			if q.Cmp(a) != 0 || !r.Zero() || e != api.OK {
				t.Errorf("P2.1: %v times %v by the latter: %v, %v, %d", a.Limbs(), b.Limbs(), q.Limbs(), r.Limbs(), e)
			}
			less, _ := product.Sub(one)
			divides(t, less, b)
			divides(t, product.Add(one), b)
		}
	}
}

func TestDivOfLessAndOfEqual(t *testing.T) {
	for _, n := range samples() {
		q, r, e := quot.Div(n, n.Add(nat.Of(1)))
		if !q.Zero() || r.Cmp(n) != 0 || e != api.OK {
			t.Errorf("P2.1: Div of %v by one more: %v, %v, %d", n.Limbs(), q.Limbs(), r.Limbs(), e)
		}
		if n.Zero() {
			continue
		}
		q, r, e = quot.Div(n, n)
		if q.Cmp(nat.Of(1)) != 0 || !r.Zero() || e != api.OK {
			t.Errorf("P2.1: Div of %v by itself: %v, %v, %d", n.Limbs(), q.Limbs(), r.Limbs(), e)
		}
		q, r, e = quot.Div(nat.Nat{}, n)
		if !q.Zero() || !r.Zero() || e != api.OK {
			t.Errorf("P2.1: Div of 0 by %v: %v, %v, %d", n.Limbs(), q.Limbs(), r.Limbs(), e)
		}
		q, r, e = quot.Div(n, nat.Of(1))
		if q.Cmp(n) != 0 || !r.Zero() || e != api.OK {
			t.Errorf("P2.1: Div of %v by 1: %v, %v, %d", n.Limbs(), q.Limbs(), r.Limbs(), e)
		}
	}
}

func TestDivByZero(t *testing.T) {
	for _, zero := range []nat.Nat{{}, nat.Of(), nat.Of(0, 0)} {
		for _, n := range samples() {
			if q, r, e := quot.Div(n, zero); e != api.ErrZero || !q.Zero() || !r.Zero() {
				t.Errorf("P2.1: Div of %v by 0: %v, %v, %d", n.Limbs(), q.Limbs(), r.Limbs(), e)
			}
		}
	}
}

func TestDivOfRandomAndLong(t *testing.T) {
	source := rand.New(rand.NewSource(3))
	for range 20000 {
		a, b := nat.Of(random(source, 1+source.Intn(9))...), nat.Of(random(source, 1+source.Intn(6))...)
		if !b.Zero() {
			divides(t, a, b)
		}
	}
	for _, x := range [][2]int{{300, 1}, {300, 2}, {300, 150}, {300, 299}, {300, 300}, {api.MaxLimbs, 3}, {api.MaxLimbs + 9, api.MaxLimbs}} {
		divides(t, nat.Of(repeat(top, x[0])...), nat.Of(but(0, x[1], 1, 1<<63)...))
		divides(t, nat.Of(but(0, x[0], 0, 1)...), nat.Of(but(top, x[1], top, 1<<63)...))
		divides(t, nat.Of(but(0, x[0], 3, 1<<63)...), nat.Of(but(7, x[1], 9, 1)...))
	}
}

// shifts are by how much is shifted: the edges, and much between them.
func shifts() []int {
	l := []int{500, 1000, 6400, 64*api.MaxLimbs - 64, maxShift - 1, maxShift}
	for n := range 200 {
		l = append(l, n)
	}
	return l
}

func TestShifts(t *testing.T) {
	for _, a := range samples() {
		x := value(a)
		for _, n := range shifts() {
			up, e := quot.Shl(a, n)
			if e != api.OK {
				t.Errorf("P2.2: Shl of %v by %d: error %d", x, n, e)
			}
			wants(t, "P2.2: Shl", up, new(big.Int).Lsh(x, uint(n)))
			down, e := quot.Shr(a, n)
			if e != api.OK {
				t.Errorf("P2.2: Shr of %v by %d: error %d", x, n, e)
			}
			wants(t, "P2.2: Shr", down, new(big.Int).Rsh(x, uint(n)))
			if back, e := quot.Shr(up, n); back.Cmp(a) != 0 || e != api.OK {
				t.Errorf("P2.2: %v shifted by %d and back is %v, %d", x, n, value(back), e)
			}
			wants(t, "P2.2: what was shifted", a, x)
		}
	}
}

func TestShiftsOutOfBounds(t *testing.T) {
	for _, a := range samples() {
		for _, n := range []int{-1, -2, -64, math.MinInt, maxShift + 1, maxShift + 64, math.MaxInt} {
			if up, e := quot.Shl(a, n); e != api.ErrArg || !up.Zero() {
				t.Errorf("P2.2: Shl of %v by %d: %v, %d", a.Limbs(), n, up.Limbs(), e)
			}
			if down, e := quot.Shr(a, n); e != api.ErrArg || !down.Zero() {
				t.Errorf("P2.2: Shr of %v by %d: %v, %d", a.Limbs(), n, down.Limbs(), e)
			}
		}
	}
}

func TestShiftsByTheMost(t *testing.T) {
	long := nat.Of(repeat(top, api.MaxLimbs+1)...)
	down, e := quot.Shr(long, maxShift)
	if !slices.Equal(down.Limbs(), []uint64{top}) || e != api.OK {
		t.Errorf("P2.2: Shr of the longest by the most: %v, %d", down.Limbs(), e)
	}
	up, e := quot.Shl(nat.Of(3), maxShift)
	if !slices.Equal(up.Limbs(), append(repeat(0, api.MaxLimbs), 3)) || e != api.OK {
		t.Errorf("P2.2: Shl of 3 by the most: %d limbs, %d", len(up.Limbs()), e)
	}
	if none, e := quot.Shr(nat.Of(repeat(top, api.MaxLimbs)...), maxShift); !none.Zero() || e != api.OK {
		t.Errorf("P2.2: Shr of all bits there are: %v, %d", none.Limbs(), e)
	}
}

// hasGcd checks Gcd of both, in either order.
func hasGcd(t *testing.T, a, b nat.Nat) {
	t.Helper()
	x, y := value(a), value(b)
	want := new(big.Int).GCD(nil, nil, x, y)
	for _, got := range []nat.Nat{quot.Gcd(a, b), quot.Gcd(b, a)} {
		if value(got).Cmp(want) != 0 {
			t.Errorf("P2.3: Gcd of %v and %v: %v, want %v", x, y, value(got), want)
		}
	}
	if value(a).Cmp(x) != 0 || value(b).Cmp(y) != 0 {
		t.Errorf("P2.3: Gcd changed %v or %v", x, y)
	}
}

func TestGcd(t *testing.T) {
	for _, x := range []struct{ a, b, want uint64 }{{12, 18, 6}, {17, 13, 1}, {6, 6, 6}, {1, 9, 1}, {0, 5, 5}, {5, 0, 5}, {0, 0, 0}, {7, 21, 7}, {top, 5, 5}, {top, top - 1, 1}} {
		if got := quot.Gcd(nat.Of(x.a), nat.Of(x.b)); got.Cmp(nat.Of(x.want)) != 0 {
			t.Errorf("P2.3: Gcd of %d and %d: %v", x.a, x.b, got.Limbs())
		}
	}
	for _, a := range samples() {
		for _, b := range samples() {
			hasGcd(t, a, b)
		}
		if got := quot.Gcd(a, a); got.Cmp(a) != 0 {
			t.Errorf("P2.3: Gcd of %v and itself: %v", a.Limbs(), got.Limbs())
		}
		if got := quot.Gcd(a, nat.Nat{}); got.Cmp(a) != 0 {
			t.Errorf("P2.3: Gcd of %v and 0: %v", a.Limbs(), got.Limbs())
		}
		if got := quot.Gcd(nat.Nat{}, a); got.Cmp(a) != 0 {
			t.Errorf("P2.3: Gcd of 0 and %v: %v", a.Limbs(), got.Limbs())
		}
	}
}

func TestGcdOfMultiples(t *testing.T) {
	source := rand.New(rand.NewSource(4))
	for range 3000 {
		a, b := nat.Of(random(source, 1+source.Intn(9))...), nat.Of(random(source, 1+source.Intn(9))...)
		shared := nat.Of(random(source, 1+source.Intn(5))...)
		hasGcd(t, a.Mul(shared), b.Mul(shared))
		hasGcd(t, a.Mul(shared), shared)
		hasGcd(t, a, b)
	}
}

// TestGcdOfQuotientsInARow makes both numbers from the quotients that dividing them by one another brings: all ones are the most steps there can be, great ones cross limbs at once.
func TestGcdOfQuotientsInARow(t *testing.T) {
	source := rand.New(rand.NewSource(5))
	quotients := []func() nat.Nat{
		func() nat.Nat { return nat.Of(1) },
		func() nat.Nat { return nat.Of(2) },
		func() nat.Nat { return nat.Of(1 + source.Uint64()>>(32+source.Intn(32))) },
		func() nat.Nat { return nat.Of(1+source.Uint64()>>1, source.Uint64()>>source.Intn(64)) },
		func() nat.Nat { return nat.Of(1 << source.Intn(64)) },
		func() nat.Nat { return nat.Of(top) },
	}
	for _, next := range quotients {
		for _, last := range [][]uint64{{1}, {6}, {1 << 63}, {5, 7}, {0, 0, 1}} {
			a, b := nat.Of(last...), nat.Nat{}
			for step := range 150 {
				a, b = a.Mul(next()).Add(b), a
				hasGcd(t, a, b)
				if got := quot.Gcd(a, b); got.Cmp(nat.Of(last...)) != 0 {
					t.Errorf("P2.3: after %d quotients: %v, want %v", step, got.Limbs(), last)
				}
			}
		}
	}
}

func TestGcdOfLong(t *testing.T) {
	source := rand.New(rand.NewSource(6))
	long := make([]uint64, 2000)
	for i := range long {
		long[i] = source.Uint64()
	}
	for _, x := range [][2]int{{1200, 1200}, {1200, 1199}, {1200, 600}, {1200, 2}, {1200, 1}} {
		a, b := nat.Of(long[:x[0]]...), nat.Of(long[2000-x[1]:]...)
		hasGcd(t, a, b)
		shared := nat.Of(long[5:40]...)
		hasGcd(t, a.Mul(shared), b.Mul(shared))
	}
	five := new(big.Int).Exp(big.NewInt(5), big.NewInt(30000), nil)
	ten := new(big.Int).Exp(big.NewInt(10), big.NewInt(20000), nil)
	hasGcd(t, number(five), number(ten))
}

func TestZeroNat(t *testing.T) {
	var zero nat.Nat
	for _, n := range shifts() {
		if up, e := quot.Shl(zero, n); !up.Zero() || e != api.OK {
			t.Errorf("P2.2: Shl of 0 by %d: %v, %d", n, up.Limbs(), e)
		}
		if down, e := quot.Shr(zero, n); !down.Zero() || e != api.OK {
			t.Errorf("P2.2: Shr of 0 by %d: %v, %d", n, down.Limbs(), e)
		}
	}
	if got := quot.Gcd(zero, zero); !got.Zero() {
		t.Errorf("P2.3: Gcd of 0 and 0: %v", got.Limbs())
	}
}
