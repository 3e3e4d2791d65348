package nat

import "testing"

// TestKeptLimbs: no number keeps room behind its limbs, in which two numbers could meet, and 0 keeps none at all.
func TestKeptLimbs(t *testing.T) {
	const top = 1<<64 - 1
	long := Of(0, 0, 0, 1)
	near, _ := long.Sub(Of(1))
	small, _ := long.Sub(near)
	none, _ := long.Sub(long)
	for i, n := range []Nat{
		Of(), Of(0, 0), Of(5, 0, 0), Of(1, 2, 3, 4, 5), long, near, small, none,
		Of(5).Add(Of(6)), Of(top, top).Add(Of(1)), Of(2).Mul(Of(3, 4)), Of(top).Mul(Of(top)), Of(0).Mul(long), Of().Add(Of()),
	} {
		if len(n.limbs) != cap(n.limbs) {
			t.Errorf("Ways: number %d keeps room behind its limbs: %d of %d", i, len(n.limbs), cap(n.limbs))
		}
		if len(n.limbs) > 0 && n.limbs[len(n.limbs)-1] == 0 {
			t.Errorf("P1.1: number %d keeps a 0 as its last limb", i)
		}
		if len(n.limbs) == 0 && n.limbs != nil {
			t.Errorf("P1.1: number %d is 0, but not the zero Nat", i)
		}
	}
}
