package quot

import "chattel/nat"

// Gcd of two numbers.
func Gcd(a, b nat.Nat) nat.Nat {
	if a.Cmp(b) < 0 {
		a, b = b, a
	}
	for b.Bits() > limbBits {
		a, b = lessen(a, b)
	}
	if b.Zero() {
		return a
	}
	_, rest, _ := Div(a, b)
	return nat.Of(gcdOfLimbs(limbFrom(b.Limbs(), 0), limbFrom(rest.Limbs(), 0)))
}

// gcdOfLimbs is that of two numbers that are a limb each, by Euclid.
func gcdOfLimbs(x, y uint64) uint64 {
	for y != 0 {
		x, y = y, x%y
	}
	return x
}

// lessen makes of two numbers, the greater one first, two lesser ones with the same divisors in common, again the greater one first: by as many of Euclid's steps as their first bits tell for sure, or else by one. Dividing the whole numbers at every step would take many times as long.
func lessen(a, b nat.Nat) (nat.Nat, nat.Nat) {
	from := a.Bits() - limbBits
	s := foresee(limbFrom(a.Limbs(), from), limbFrom(b.Limbs(), from))
	if s == none() {
		_, rest, _ := Div(a, b)
		return b, rest
	}
	return apart(a, s.a1, b, s.b1), apart(a, s.a2, b, s.b2)
}

// steps of Euclid made from two numbers a and b lead to the difference of a1 times a and b1 times b, and to that of a2 times a and b2 times b.
type steps struct {
	a1, b1, a2, b2 uint64
}

// none leads from two numbers to themselves.
func none() steps { return steps{a1: 1, b2: 1} }

// foresee tells the steps that two numbers have in common with all longer ones that begin with them (x no less than y, and as many bits cut off behind both). A step is sure as long as what it leaves is so great that the bits cut off can't change the quotient: Collins' condition, by which no product here wraps round either.
func foresee(x, y uint64) steps {
	s := none()
	for y != 0 {
		times, rest := x/y, x%y
		next := steps{s.a2, s.b2, s.a1 + times*s.a2, s.b1 + times*s.b2}
		if rest < next.b2 || y-rest < next.b1+next.b2 {
			break
		}
		x, y, s = y, rest, next
	}
	return s
}

// apart is how far so many times a and so many times b are apart.
func apart(a nat.Nat, timesA uint64, b nat.Nat, timesB uint64) nat.Nat {
	x, y := nat.Of(timesA).Mul(a), nat.Of(timesB).Mul(b)
	if x.Cmp(y) < 0 {
		x, y = y, x
	}
	far, _ := x.Sub(y)
	return far
}
