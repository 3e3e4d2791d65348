// Package nat is layer 1: see shared/doc/01-nat.md.
package nat

import (
	"cmp"
	"math/bits"
)

// limbBits is how many binary digits a limb has.
const limbBits = 64

// Nat is a number from 0 on. Its limbs are never written again once they are kept, so numbers may be handed around as values.
type Nat struct {
	limbs []uint64 // the least first, the last one not 0
}

// Of limbs, the least first.
func Of(limbs ...uint64) Nat {
	return keep(fresh(withoutNoughts(limbs)))
}

// Limbs of a number, the least first.
func (n Nat) Limbs() []uint64 { return fresh(n.limbs) }

// Zero: is it 0?
func (n Nat) Zero() bool { return len(n.limbs) == 0 }

// Bits: how many it has.
func (n Nat) Bits() int {
	if n.Zero() {
		return 0
	}
	last := len(n.limbs) - 1
	return last*limbBits + bits.Len64(n.limbs[last])
}

// Cmp: -1, 0 or 1, if it is less, equal, greater.
func (n Nat) Cmp(m Nat) int {
	// The last limb is never 0, so the longer number is the greater one.
	if c := cmp.Compare(len(n.limbs), len(m.limbs)); c != 0 {
		return c
	}
	for i := len(n.limbs) - 1; i >= 0; i-- {
		if c := cmp.Compare(n.limbs[i], m.limbs[i]); c != 0 {
			return c
		}
	}
	return 0
}

// Add another one.
func (n Nat) Add(m Nat) Nat {
	long, short := n.limbs, m.limbs
	if len(long) < len(short) {
		long, short = short, long
	}
	sum := make([]uint64, len(long)+1)
	var carry uint64
	for i, x := range long {
		sum[i], carry = bits.Add64(x, limbAt(short, i), carry)
	}
	sum[len(long)] = carry
	return keep(sum)
}

// Sub: less another one; false: that is greater.
func (n Nat) Sub(m Nat) (Nat, bool) {
	if n.Cmp(m) < 0 {
		return Nat{}, false
	}
	rest := make([]uint64, len(n.limbs))
	var borrow uint64
	for i, x := range n.limbs {
		rest[i], borrow = bits.Sub64(x, limbAt(m.limbs, i), borrow)
	}
	return keep(rest), true
}

// Mul: times another one.
func (n Nat) Mul(m Nat) Nat {
	width := len(m.limbs)
	product := make([]uint64, len(n.limbs)+width)
	for i, x := range n.limbs {
		product[i+width] = addTimes(product[i:i+width], m.limbs, x)
	}
	return keep(product)
}

// addTimes adds x times l to as many limbs of sum, and answers what is carried out of them.
func addTimes(sum, l []uint64, x uint64) uint64 {
	var carry uint64
	for i, y := range l {
		high, low := bits.Mul64(x, y)
		low, over := bits.Add64(low, sum[i], 0)
		high += over
		// A product of two limbs with two more limbs added has no more than two limbs: high can't wrap round.
		low, over = bits.Add64(low, carry, 0)
		sum[i], carry = low, high+over
	}
	return carry
}

// keep makes a number of limbs that nobody else holds.
func keep(own []uint64) Nat {
	used := withoutNoughts(own)
	if len(used) == 0 {
		// 0 has one form only, that of the zero Nat.
		return Nat{}
	}
	return Nat{limbs: used}
}

// withoutNoughts leaves out the noughts at the end. The third index bars what lies behind from whoever gets the list.
func withoutNoughts(l []uint64) []uint64 {
	n := len(l)
	for n > 0 && l[n-1] == 0 {
		n--
	}
	return l[:n:n]
}

// fresh is the same limbs in new memory.
func fresh(l []uint64) []uint64 {
	own := make([]uint64, len(l))
	copy(own, l)
	return own
}

// limbAt takes what lies behind the last limb as noughts.
func limbAt(l []uint64, i int) uint64 {
	if i < len(l) {
		return l[i]
	}
	return 0
}
