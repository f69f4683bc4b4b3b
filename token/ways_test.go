package token_test

import (
	"go/ast"
	"go/parser"
	gotoken "go/token"
	"testing"
)

// The document's section 'Ways' asks of layer 9 that claims' numbers are looked
// at by a closure: where claims are made of a value, each of their numbers comes
// from the one function literal there, which keeps count of what it saw outside
// itself.
func TestWaysNumbersAreLookedAtByAClosure(t *testing.T) {
	file, err := parser.ParseFile(gotoken.NewFileSet(), "token.go", nil, 0)
	if err != nil {
		t.Fatal(err)
	}
	f := funcOf(file, "claimsOf")
	if f == nil {
		t.Fatal("no function claimsOf")
	}
	name, lit := closureOf(f)
	if lit == nil {
		t.Fatal("claimsOf has no function literal with a name")
	}
	if !writesOutside(lit) {
		t.Errorf("%s keeps nothing outside itself", name)
	}
	if calls := callsOf(f, name); calls != 4 {
		t.Errorf("%s is called at %d places, not once for each number", name, calls)
	}
	if reads := readsOf(f) - readsOf(lit); reads != 0 {
		t.Errorf("%d numbers are looked at outside %s", reads, name)
	}
}

// Parse is what makes claims of a value: it does so by claimsOf.
func TestWaysParseReachesTheClosure(t *testing.T) {
	file, err := parser.ParseFile(gotoken.NewFileSet(), "token.go", nil, 0)
	if err != nil {
		t.Fatal(err)
	}
	if f := funcOf(file, "Parse"); f == nil || callsOf(f, "claimsOf") == 0 {
		t.Errorf("Parse doesn't call claimsOf")
	}
}

func funcOf(file *ast.File, name string) *ast.FuncDecl {
	for _, d := range file.Decls {
		if f, ok := d.(*ast.FuncDecl); ok && f.Name.Name == name {
			return f
		}
	}
	return nil
}

// closureOf: the first function literal of f that is given a name, and that name.
func closureOf(f *ast.FuncDecl) (name string, lit *ast.FuncLit) {
	ast.Inspect(f, func(n ast.Node) bool {
		a, ok := n.(*ast.AssignStmt)
		if !ok || a.Tok != gotoken.DEFINE || lit != nil {
			return true
		}
		if l, ok := a.Rhs[0].(*ast.FuncLit); ok {
			name, lit = a.Lhs[0].(*ast.Ident).Name, l
		}
		return true
	})
	return name, lit
}

// writesOutside: does the literal assign to a variable that it didn't declare?
func writesOutside(lit *ast.FuncLit) bool {
	found := false
	ast.Inspect(lit.Body, func(n ast.Node) bool {
		if a, ok := n.(*ast.AssignStmt); ok && a.Tok == gotoken.ASSIGN {
			found = true
		}
		return true
	})
	return found
}

func callsOf(f *ast.FuncDecl, name string) int {
	count := 0
	ast.Inspect(f, func(n ast.Node) bool {
		if c, ok := n.(*ast.CallExpr); ok {
			if id, ok := c.Fun.(*ast.Ident); ok && id.Name == name {
				count++
			}
		}
		return true
	})
	return count
}

// readsOf: at how many places a value's number is read.
func readsOf(within ast.Node) int {
	count := 0
	ast.Inspect(within, func(n ast.Node) bool {
		if s, ok := n.(*ast.SelectorExpr); ok && s.Sel.Name == "N" {
			count++
		}
		return true
	})
	return count
}
