package lex

import (
	"go/ast"
	"go/parser"
	"go/token"
	"slices"
	"testing"
)

// TestReachGoesByRunes: reach asks of each rune, whatever its bytes, up to the first one that isn't inside, and answers bytes.
func TestReachGoesByRunes(t *testing.T) {
	for _, x := range []struct {
		s     string
		want  int
		runes []rune
	}{
		{"", 0, nil},
		{"!", 0, []rune{'!'}},
		{"ab!c", 2, []rune{'a', 'b', '!'}},
		{"aé€😀!b", 10, []rune{'a', 0xe9, 0x20ac, 0x1f600, '!'}},
		{"é\xff\xc3b", 5, []rune{0xe9, 0xfffd, 0xfffd, 'b'}},
	} {
		var asked []rune
		got := reach(x.s, func(r rune) bool {
			asked = append(asked, r)
			return r != '!'
		})
		if got != x.want || !slices.Equal(asked, x.runes) {
			t.Errorf("Ways: reach of %q: %d, asked of %q", x.s, got, asked)
		}
	}
}

// functions are those of the file lex.go, by their names.
func functions(t *testing.T) map[string]*ast.FuncDecl {
	file, err := parser.ParseFile(token.NewFileSet(), "lex.go", nil, 0)
	if err != nil {
		t.Fatal(err)
	}
	all := map[string]*ast.FuncDecl{}
	for _, d := range file.Decls {
		if function, ok := d.(*ast.FuncDecl); ok {
			all[function.Name.Name] = function
		}
	}
	return all
}

// isName: is the expression this name?
func isName(e ast.Expr, name string) bool {
	x, ok := e.(*ast.Ident)
	return ok && x.Name == name
}

// rangesOverText: has the function's first parameter, a string, a range with a place and a rune?
func rangesOverText(function *ast.FuncDecl) bool {
	text := function.Type.Params.List[0]
	found := false
	ast.Inspect(function.Body, func(n ast.Node) bool {
		loop, ok := n.(*ast.RangeStmt)
		if ok && isName(loop.X, text.Names[0].Name) && isName(loop.Key, "at") && isName(loop.Value, "r") {
			found = true
		}
		return true
	})
	return found && isName(text.Type, "string")
}

// calls is how often the function calls another one.
func calls(function *ast.FuncDecl, name string) int {
	times := 0
	ast.Inspect(function.Body, func(n ast.Node) bool {
		if call, ok := n.(*ast.CallExpr); ok && isName(call.Fun, name) {
			times++
		}
		return true
	})
	return times
}

// TestRunesByRange: words and figures end where reach tells, and reach and isDate go through a token's runes by a range over the string.
func TestRunesByRange(t *testing.T) {
	all := functions(t)
	for _, name := range []string{"reach", "isDate"} {
		if all[name] == nil || !rangesOverText(all[name]) {
			t.Errorf("Ways: %s has no range over its string", name)
		}
	}
	if all["first"] == nil || calls(all["first"], "reach") != 2 {
		t.Errorf("Ways: words and figures aren't both gone through by reach")
	}
}
