package digits

import (
	"go/ast"
	"go/parser"
	"go/token"
	"strings"
	"testing"

	"chattel/nat"
)

// TestGroupIsAnArray: a group's digits are an array, which fills up with noughts ahead.
func TestGroupIsAnArray(t *testing.T) {
	for n, end := range map[uint64]string{0: "0", 7: "7", 1234567890: "1234567890", 1000000000000000000: "1000000000000000000", groupEnd - 1: strings.Repeat("9", groupSize)} {
		var want [groupSize]byte
		copy(want[:], strings.Repeat("0", groupSize-len(end))+end)
		if got := group(nat.Of(n)); got != want {
			t.Errorf("Ways: the group of %d is %s", n, got[:])
		}
	}
}

// TestDigitsAreWrittenIntoAnArray: group has a variable that is an array, and writes into it by its index.
func TestDigitsAreWrittenIntoAnArray(t *testing.T) {
	file, err := parser.ParseFile(token.NewFileSet(), "digits.go", nil, 0)
	if err != nil {
		t.Fatal(err)
	}
	arrays, written := map[string]bool{}, false
	for _, d := range file.Decls {
		function, ok := d.(*ast.FuncDecl)
		if !ok || function.Name.Name != "group" {
			continue
		}
		ast.Inspect(function.Body, func(n ast.Node) bool {
			switch x := n.(type) {
			case *ast.ValueSpec:
				if kind, ok := x.Type.(*ast.ArrayType); ok && kind.Len != nil {
					arrays[x.Names[0].Name] = true
				}
			case *ast.AssignStmt:
				if place, ok := x.Lhs[0].(*ast.IndexExpr); ok {
					name, ok := place.X.(*ast.Ident)
					written = written || ok && arrays[name.Name]
				}
			}
			return true
		})
	}
	if !written {
		t.Errorf("Ways: group writes no digits into an array")
	}
}
