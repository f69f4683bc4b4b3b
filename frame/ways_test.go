package frame_test

import (
	"go/ast"
	"go/parser"
	"go/token"
	"path/filepath"
	"strings"
	"testing"
)

// The document's section 'Ways' asks of layer 3 that a byte's bits are gone
// through by a range over an integer: what takes one byte into a sum does so,
// and every call comes to it.
func TestWaysRangeOverInteger(t *testing.T) {
	files := filesOf(t)
	funcs := funcsOf(files)
	var found []string
	for name, f := range funcs {
		if !takesByte(f) {
			continue
		}
		ranges, others := loopsOf(f, eights(files))
		if ranges == 0 || others != 0 {
			t.Errorf("%s: %d loops over the number of bits, %d others", name, ranges, others)
		}
		found = append(found, name)
	}
	for _, name := range []string{"Sum", "Put", "Get", "All"} {
		if funcs[name] == nil || !reaches(funcs, name, found) {
			t.Errorf("%s doesn't come to a range over a byte's bits", name)
		}
	}
}

func filesOf(t *testing.T) []*ast.File {
	t.Helper()
	names, err := filepath.Glob("*.go")
	if err != nil {
		t.Fatal(err)
	}
	var files []*ast.File
	for _, name := range names {
		if strings.HasSuffix(name, "_test.go") {
			continue
		}
		file, err := parser.ParseFile(token.NewFileSet(), name, nil, 0)
		if err != nil {
			t.Fatal(err)
		}
		files = append(files, file)
	}
	return files
}

func funcsOf(files []*ast.File) map[string]*ast.FuncDecl {
	funcs := map[string]*ast.FuncDecl{}
	for _, file := range files {
		for _, d := range file.Decls {
			if f, ok := d.(*ast.FuncDecl); ok {
				funcs[f.Name.Name] = f
			}
		}
	}
	return funcs
}

func takesByte(f *ast.FuncDecl) bool {
	for _, p := range f.Type.Params.List {
		if kind, ok := p.Type.(*ast.Ident); ok && kind.Name == "byte" {
			return true
		}
	}
	return false
}

// eights: the names of the constants that are a byte's number of bits.
func eights(files []*ast.File) map[string]bool {
	names := map[string]bool{}
	for _, file := range files {
		ast.Inspect(file, func(n ast.Node) bool {
			if s, ok := n.(*ast.ValueSpec); ok && len(s.Names) == 1 && len(s.Values) == 1 && isEight(s.Values[0], nil) {
				names[s.Names[0].Name] = true
			}
			return true
		})
	}
	return names
}

func isEight(x ast.Expr, names map[string]bool) bool {
	switch e := x.(type) {
	case *ast.BasicLit:
		return e.Value == "8"
	case *ast.Ident:
		return names[e.Name]
	}
	return false
}

// loopsOf: how many loops of f range over a byte's number of bits, and how many don't.
func loopsOf(f *ast.FuncDecl, names map[string]bool) (ranges, others int) {
	ast.Inspect(f, func(n ast.Node) bool {
		switch loop := n.(type) {
		case *ast.ForStmt:
			others++
		case *ast.RangeStmt:
			if isEight(loop.X, names) {
				ranges++
			} else {
				others++
			}
		}
		return true
	})
	return ranges, others
}

// reaches: does from come to one of the wanted, by the names that stand in functions?
func reaches(funcs map[string]*ast.FuncDecl, from string, wanted []string) bool {
	seen := map[string]bool{}
	var look func(name string)
	look = func(name string) {
		if seen[name] || funcs[name] == nil {
			return
		}
		seen[name] = true
		ast.Inspect(funcs[name].Body, func(n ast.Node) bool {
			// A name behind a point is another package's.
			if _, ok := n.(*ast.SelectorExpr); ok {
				return false
			}
			if i, ok := n.(*ast.Ident); ok {
				look(i.Name)
			}
			return true
		})
	}
	look(from)
	for _, w := range wanted {
		if seen[w] {
			return true
		}
	}
	return false
}
