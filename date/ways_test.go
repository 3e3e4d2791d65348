package date

import (
	"go/ast"
	"go/parser"
	"go/token"
	"testing"
)

// TestMonthDaysAreAnArray: the table is an array, whose values are held against another one's, all at once.
func TestMonthDaysAreAnArray(t *testing.T) {
	if want := [12]int{31, 28, 31, 30, 31, 30, 31, 31, 30, 31, 30, 31}; monthDays != want {
		t.Errorf("Ways: the months' days are %v", monthDays)
	}
}

// indexed: does the file have a function of that name that takes a value out of the table by an index?
func indexed(file *ast.File, function, table string) bool {
	found := false
	for _, d := range file.Decls {
		f, ok := d.(*ast.FuncDecl)
		if !ok || f.Recv != nil || f.Name.Name != function {
			continue
		}
		ast.Inspect(f.Body, func(n ast.Node) bool {
			if place, ok := n.(*ast.IndexExpr); ok {
				name, ok := place.X.(*ast.Ident)
				found = found || ok && name.Name == table
			}
			return true
		})
	}
	return found
}

// TestDaysComeFromTheArray: Days takes a month's days out of the array, by an index.
func TestDaysComeFromTheArray(t *testing.T) {
	file, err := parser.ParseFile(token.NewFileSet(), "date.go", nil, 0)
	if err != nil {
		t.Fatal(err)
	}
	if !indexed(file, "Days", "monthDays") {
		t.Errorf("Ways: Days takes no days out of the array")
	}
}
