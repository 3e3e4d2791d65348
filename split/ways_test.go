package split

import (
	"go/ast"
	"go/parser"
	"go/token"
	"testing"
)

// functions are those that the package's own file declares.
func functions(t *testing.T) []*ast.FuncDecl {
	t.Helper()
	file, err := parser.ParseFile(token.NewFileSet(), "split.go", nil, 0)
	if err != nil {
		t.Fatal(err)
	}
	var all []*ast.FuncDecl
	for _, d := range file.Decls {
		if f, ok := d.(*ast.FuncDecl); ok {
			all = append(all, f)
		}
	}
	return all
}

// dates are the names of the dates that are handed to a function.
func dates(f *ast.FuncType) map[string]bool {
	names := map[string]bool{}
	for _, list := range f.Params.List {
		if kind, ok := list.Type.(*ast.SelectorExpr); ok && kind.Sel.Name == "Date" {
			for _, name := range list.Names {
				names[name.Name] = true
			}
		}
	}
	return names
}

// TestDatesAreStructsThatAreCompared: a date that is handed in is held against another one whole, by == or !=.
func TestDatesAreStructsThatAreCompared(t *testing.T) {
	found := false
	for _, f := range functions(t) {
		handed := dates(f.Type)
		ast.Inspect(f.Body, func(n ast.Node) bool {
			pair, ok := n.(*ast.BinaryExpr)
			if !ok || pair.Op != token.EQL && pair.Op != token.NEQ {
				return true
			}
			for _, side := range []ast.Expr{pair.X, pair.Y} {
				name, ok := side.(*ast.Ident)
				found = found || ok && handed[name.Name]
			}
			return true
		})
	}
	if !found {
		t.Errorf("Ways: no two dates are compared whole")
	}
}

// TestCutsAreLeftOutByAClosure: a function literal tells of a date whether it is left out, by both bounds, which it takes from the function around it.
func TestCutsAreLeftOutByAClosure(t *testing.T) {
	found := false
	for _, f := range functions(t) {
		handed := dates(f.Type)
		ast.Inspect(f.Body, func(n ast.Node) bool {
			literal, ok := n.(*ast.FuncLit)
			found = found || ok && len(dates(literal.Type)) == 1 && len(used(literal.Body, handed)) == 2
			return true
		})
	}
	if !found {
		t.Errorf("Ways: no closure tells which cuts are out of the two bounds")
	}
}

// used are those of the names that stand in a function's body.
func used(body *ast.BlockStmt, names map[string]bool) map[string]bool {
	those := map[string]bool{}
	ast.Inspect(body, func(n ast.Node) bool {
		if name, ok := n.(*ast.Ident); ok && names[name.Name] {
			those[name.Name] = true
		}
		return true
	})
	return those
}
