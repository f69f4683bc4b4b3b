package mac_test

import (
	"go/ast"
	"go/parser"
	"go/token"
	"testing"
)

// The document's section 'Ways' asks of layer 5 that two texts' bytes are gone
// through by a range over an integer: Same is what goes through them. P5.3 asks
// that each byte of the longer one is looked at, wherever they differ: so that
// integer is the longer one's length, and nothing leaves ahead of its end.
func TestWaysRangeOverInteger(t *testing.T) {
	file, err := parser.ParseFile(token.NewFileSet(), "mac.go", nil, 0)
	if err != nil {
		t.Fatal(err)
	}
	f := funcOf(file, "Same")
	if f == nil {
		t.Fatal("no function Same")
	}
	texts := namesOf(f.Type.Params)
	ranges, others := loopsOf(f, texts)
	if len(ranges) != 1 || others != 0 {
		t.Fatalf("Same: %d loops over the longer one's length, %d others", len(ranges), others)
	}
	for _, text := range texts {
		if !readsAt(ranges[0], text) {
			t.Errorf("the loop doesn't look at %s's bytes", text)
		}
	}
	if waysOut(f) != 1 {
		t.Error("Same leaves at another place than its end")
	}
}

func funcOf(file *ast.File, name string) *ast.FuncDecl {
	for _, d := range file.Decls {
		if f, ok := d.(*ast.FuncDecl); ok && f.Name.Name == name {
			return f
		}
	}
	return nil
}

func namesOf(list *ast.FieldList) []string {
	var names []string
	for _, p := range list.List {
		for _, n := range p.Names {
			names = append(names, n.Name)
		}
	}
	return names
}

// loopsOf: the loops of f that range over the length of the longest of the texts, and how many others it has.
func loopsOf(f *ast.FuncDecl, texts []string) (ranges []*ast.RangeStmt, others int) {
	ast.Inspect(f, func(n ast.Node) bool {
		switch loop := n.(type) {
		case *ast.ForStmt:
			others++
		case *ast.RangeStmt:
			if isLongest(loop.X, texts) {
				ranges = append(ranges, loop)
			} else {
				others++
			}
		}
		return true
	})
	return ranges, others
}

// isLongest: is it max of len of each of the texts?
func isLongest(x ast.Expr, texts []string) bool {
	longest, ok := x.(*ast.CallExpr)
	if !ok || !named(longest.Fun, "max") || len(longest.Args) != len(texts) {
		return false
	}
	for i, arg := range longest.Args {
		length, ok := arg.(*ast.CallExpr)
		if !ok || !named(length.Fun, "len") || len(length.Args) != 1 || !named(length.Args[0], texts[i]) {
			return false
		}
	}
	return true
}

// readsAt: does the loop hand the text and its own number on together, or look there by itself?
func readsAt(loop *ast.RangeStmt, text string) bool {
	at, ok := loop.Key.(*ast.Ident)
	if !ok {
		return false
	}
	found := false
	ast.Inspect(loop.Body, func(n ast.Node) bool {
		switch x := n.(type) {
		case *ast.IndexExpr:
			found = found || named(x.X, text) && named(x.Index, at.Name)
		case *ast.CallExpr:
			found = found || len(x.Args) == 2 && named(x.Args[0], text) && named(x.Args[1], at.Name)
		}
		return true
	})
	return found
}

// waysOut: at how many places f, or a loop of it, is left ahead of time or at its end.
func waysOut(f *ast.FuncDecl) int {
	count := 0
	ast.Inspect(f.Body, func(n ast.Node) bool {
		switch n.(type) {
		case *ast.ReturnStmt, *ast.BranchStmt:
			count++
		}
		return true
	})
	return count
}

func named(x ast.Expr, name string) bool {
	i, ok := x.(*ast.Ident)
	return ok && i.Name == name
}
