package round

import (
	"go/ast"
	"go/parser"
	"go/token"
	"testing"
)

// TestModesByIota: the modes are one group of constants, the first one a Mode that is iota, and none behind it with a value or a type of its own.
func TestModesByIota(t *testing.T) {
	file, err := parser.ParseFile(token.NewFileSet(), "round.go", nil, 0)
	if err != nil {
		t.Fatal(err)
	}
	for _, d := range file.Decls {
		group, ok := d.(*ast.GenDecl)
		if ok && group.Tok == token.CONST && group.Specs[0].(*ast.ValueSpec).Names[0].Name == "Down" {
			checkByIota(t, group)
			return
		}
	}
	t.Errorf("Ways: no group of constants begins with Down")
}

func checkByIota(t *testing.T, group *ast.GenDecl) {
	names := []string{"Down", "Up", "HalfUp", "HalfDown", "HalfEven", "Modes"}
	if len(group.Specs) != len(names) {
		t.Fatalf("Ways: %d constants, want %d", len(group.Specs), len(names))
	}
	for i, s := range group.Specs {
		line := s.(*ast.ValueSpec)
		if line.Names[0].Name != names[i] || i > 0 && (line.Values != nil || line.Type != nil) {
			t.Errorf("Ways: the constant %d is %s, or has a value or a type of its own", i, line.Names[0].Name)
		}
	}
	first := group.Specs[0].(*ast.ValueSpec)
	kind, named := first.Type.(*ast.Ident)
	if !named || kind.Name != "Mode" || len(first.Values) != 1 {
		t.Fatalf("Ways: Down is no Mode with one value")
	}
	if value, ok := first.Values[0].(*ast.Ident); !ok || value.Name != "iota" {
		t.Errorf("Ways: Down isn't iota")
	}
}
