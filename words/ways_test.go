package words_test

import (
	"go/ast"
	"go/parser"
	"go/token"
	"testing"
)

// The document's section 'Ways' asks of layer 1 that a number's bytes are gone
// through by a range over an integer: Put and Get are what goes through them.
func TestWaysRangeOverInteger(t *testing.T) {
	file, err := parser.ParseFile(token.NewFileSet(), "words.go", nil, 0)
	if err != nil {
		t.Fatal(err)
	}
	for _, name := range []string{"Put", "Get"} {
		f := funcOf(file, name)
		if f == nil {
			t.Fatalf("no function %s", name)
		}
		ranges, others := loopsOf(f)
		if ranges == 0 || others != 0 {
			t.Errorf("%s: %d loops over an integer, %d others", name, ranges, others)
		}
	}
}

func funcOf(file *ast.File, name string) *ast.FuncDecl {
	for _, d := range file.Decls {
		if f, ok := d.(*ast.FuncDecl); ok && f.Name.Name == name {
			return f
		}
	}
	return nil
}

// loopsOf: how many loops of f range over one of its int parameters, and how many don't.
func loopsOf(f *ast.FuncDecl) (ranges, others int) {
	ints := map[string]bool{}
	for _, p := range f.Type.Params.List {
		if kind, ok := p.Type.(*ast.Ident); ok && kind.Name == "int" {
			for _, n := range p.Names {
				ints[n.Name] = true
			}
		}
	}
	ast.Inspect(f, func(n ast.Node) bool {
		switch loop := n.(type) {
		case *ast.ForStmt:
			others++
		case *ast.RangeStmt:
			if x, ok := loop.X.(*ast.Ident); ok && ints[x.Name] {
				ranges++
			} else {
				others++
			}
		}
		return true
	})
	return ranges, others
}
