package quot

import (
	"go/ast"
	"go/parser"
	"go/token"
	"math/big"
	"math/rand"
	"slices"
	"testing"

	"chattel/nat"
)

// TestGuessIsPutRight: takeOff's guess is right, or too great by 1 or by 2, also where dividing two limbs can't tell it; its answer is right all the same.
func TestGuessIsPutRight(t *testing.T) {
	const top = 1<<64 - 1
	for _, x := range []struct {
		rest, by []uint64
		over     uint64
	}{
		{[]uint64{7, 5}, []uint64{1 << 63}, 0},
		{[]uint64{7, 5, 1 << 62}, []uint64{0, 1 << 63}, 0},
		{[]uint64{0, 0, 1 << 63}, []uint64{1, 1 << 63}, 0},
		{[]uint64{0, 1 << 63, 0}, []uint64{1, 1 << 63}, 1},
		{[]uint64{0, 0, 1 << 63}, []uint64{top, 1 << 63}, 1},
		{[]uint64{0, top, top - 1}, []uint64{top, top}, 1},
		{[]uint64{0, 0, 1<<63 - 1}, []uint64{top, 1 << 63}, 2},
		{[]uint64{0, 0, 0, 1<<63 - 1}, []uint64{5, top, 1 << 63}, 2},
	} {
		size := len(x.by)
		wantTimes, wantLeft := new(big.Int).QuoRem(value(x.rest), value(x.by), new(big.Int))
		if g := guess(x.rest[size], x.rest[size-1], x.by[size-1]); g-wantTimes.Uint64() != x.over {
			t.Errorf("Ways: the guess of %v by %v is %d too great", x.rest, x.by, g-wantTimes.Uint64())
		}
		rest, by := slices.Clone(x.rest), slices.Clone(x.by)
		if got := takeOff(rest, by); got != wantTimes.Uint64() || value(rest).Cmp(wantLeft) != 0 {
			t.Errorf("P2.1: takeOff %v of %v: %d, left %v", x.by, x.rest, got, rest)
		}
		if !slices.Equal(by, x.by) {
			t.Errorf("P2.1: takeOff changed what is taken off: %v", by)
		}
	}
}

// value is the number by the library's own arithmetic.
func value(limbs []uint64) *big.Int {
	v := new(big.Int)
	for _, limb := range slices.Backward(limbs) {
		v.Or(v.Lsh(v, limbBits), new(big.Int).SetUint64(limb))
	}
	return v
}

// TestGoto: the guess is put right by a goto, back to a label that stands ahead of it in the same function.
func TestGoto(t *testing.T) {
	file, err := parser.ParseFile(token.NewFileSet(), "quot.go", nil, 0)
	if err != nil {
		t.Fatal(err)
	}
	back := false
	for _, d := range file.Decls {
		function, ok := d.(*ast.FuncDecl)
		if !ok || function.Name.Name != "takeOff" {
			continue
		}
		labels := map[string]bool{}
		ast.Inspect(function, func(n ast.Node) bool {
			switch x := n.(type) {
			case *ast.LabeledStmt:
				labels[x.Label.Name] = true
			case *ast.BranchStmt:
				back = back || x.Tok == token.GOTO && labels[x.Label.Name]
			}
			return true
		})
	}
	if !back {
		t.Errorf("Ways: no goto leads back to its label in takeOff")
	}
}

// TestForeseenStepsAreSure: the steps that two limbs tell are those of all longer numbers that begin with them: the bits behind all ones or noughts, in every way.
func TestForeseenStepsAreSure(t *testing.T) {
	const top = 1<<64 - 1
	pairs := [][2]uint64{{top, top - 1}, {top, 1}, {top, 0}, {top, top}, {1 << 63, 3}, {top, 1 << 32}, {top, 1<<32 + 1}, {top, 1<<32 - 1}, {1 << 63, 1<<63 - 1}, {12200160415121876738, 7540113804746346429}}
	source := rand.New(rand.NewSource(7))
	for range 20000 {
		x := source.Uint64() | 1<<63
		pairs = append(pairs, [2]uint64{x, (source.Uint64() >> source.Intn(40)) % x})
	}
	for _, x := range pairs {
		s := foresee(x[0], x[1])
		for _, low := range [][2]uint64{{0, 0}, {0, top}, {top, 0}, {top, top}} {
			a, b := two(x[0], low[0]), two(x[1], low[1])
			if a.Cmp(b) < 0 {
				continue
			}
			want := walk(a, b, s)
			if one, other := apart(a, s.a1, b, s.b1), apart(a, s.a2, b, s.b2); one.Cmp(want[0]) != 0 || other.Cmp(want[1]) != 0 {
				t.Errorf("P2.3: steps %v from %v lead to %v and %v, not to %v and %v", s, x, one.Limbs(), other.Limbs(), want[0].Limbs(), want[1].Limbs())
			}
		}
	}
}

func two(high, low uint64) nat.Nat { return nat.Of(low, high) }

// walk goes Euclid's steps from a and b, one by one, till as many are made as s stands for.
func walk(a, b nat.Nat, s steps) [2]nat.Nat {
	for made := none(); made != s; {
		times, rest, _ := Div(a, b)
		one := limbFrom(times.Limbs(), 0)
		made = steps{made.a2, made.b2, made.a1 + one*made.a2, made.b1 + one*made.b2}
		if made.b2 > s.b2 {
			return [2]nat.Nat{}
		}
		a, b = b, rest
	}
	return [2]nat.Nat{a, b}
}
