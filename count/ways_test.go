package count

import (
	"go/ast"
	"go/parser"
	"go/token"
	"testing"
)

// TestBasesByIota: the bases are one group of constants, the first one a Basis that is iota, and none behind it with a value or a type of its own.
func TestBasesByIota(t *testing.T) {
	file, err := parser.ParseFile(token.NewFileSet(), "count.go", nil, 0)
	if err != nil {
		t.Fatal(err)
	}
	group := constantsFrom(file, "Thirty")
	if group == nil {
		t.Fatal("Ways: no group of constants begins with Thirty")
	}
	names := []string{"Thirty", "Fixed", "Actual", "Bases"}
	if len(group) != len(names) {
		t.Fatalf("Ways: %d constants, want %d", len(group), len(names))
	}
	for i, line := range group {
		if line.Names[0].Name != names[i] || len(line.Names) > 1 || i > 0 && (line.Values != nil || line.Type != nil) {
			t.Errorf("Ways: the constant %d is %s, or has a value or a type of its own", i, line.Names[0].Name)
		}
	}
	if !is(group[0].Type, "Basis") || len(group[0].Values) != 1 || !is(group[0].Values[0], "iota") {
		t.Errorf("Ways: Thirty is no Basis that is iota")
	}
}

// constantsFrom are the lines of the group of constants that begins with a name; nil, if none does.
func constantsFrom(file *ast.File, name string) []*ast.ValueSpec {
	for _, d := range file.Decls {
		group, ok := d.(*ast.GenDecl)
		if !ok || group.Tok != token.CONST {
			continue
		}
		var lines []*ast.ValueSpec
		for _, s := range group.Specs {
			lines = append(lines, s.(*ast.ValueSpec))
		}
		if lines[0].Names[0].Name == name {
			return lines
		}
	}
	return nil
}

// is: does just this name stand here?
func is(e ast.Expr, name string) bool {
	id, ok := e.(*ast.Ident)
	return ok && id.Name == name
}
