package pack_test

import (
	"go/ast"
	"go/parser"
	"go/token"
	"path/filepath"
	"strings"
	"testing"
)

// The document's section 'Ways' asks of layer 2 that a fault leaves by panic,
// is recovered in a deferred function literal, and told apart by a type
// assertion; that kinds are numbered by iota; that values come in through a
// variadic function.

func TestWaysFaultsArePanics(t *testing.T) {
	funcs := funcsOf(t)
	var catchers, panickers []string
	for name, f := range funcs {
		if catches(f) {
			catchers = append(catchers, name)
		}
		if panicsWithFault(f) {
			panickers = append(panickers, name)
		}
	}
	if len(catchers) == 0 {
		t.Error("no deferred function literal recovers and asserts a type")
	}
	if len(panickers) == 0 {
		t.Error("no function panics with a fault")
	}
	for _, name := range []string{"Put", "Get"} {
		if f := funcs[name]; f == nil || !reaches(funcs, name, catchers) || !reaches(funcs, name, panickers) {
			t.Errorf("%s doesn't take its faults by panic and recover", name)
		}
	}
}

func TestWaysKindsByIota(t *testing.T) {
	for _, file := range filesOf(t) {
		for _, d := range file.Decls {
			g, ok := d.(*ast.GenDecl)
			if !ok || g.Tok != token.CONST {
				continue
			}
			first := g.Specs[0].(*ast.ValueSpec)
			if kind, ok := first.Type.(*ast.Ident); ok && kind.Name == "Kind" && uses(first, "iota") {
				return
			}
		}
	}
	t.Error("the kinds aren't numbered by iota")
}

func TestWaysValuesAreVariadic(t *testing.T) {
	f := funcsOf(t)["All"]
	if f == nil || len(f.Type.Params.List) != 1 {
		t.Fatal("no function All of one parameter")
	}
	if _, ok := f.Type.Params.List[0].Type.(*ast.Ellipsis); !ok {
		t.Error("All isn't variadic")
	}
}

func filesOf(t *testing.T) []*ast.File {
	t.Helper()
	names, err := filepath.Glob("*.go")
	if err != nil {
		t.Fatal(err)
	}
	var files []*ast.File
	for _, name := range names {
		if strings.HasSuffix(name, "_test.go") {
			continue
		}
		file, err := parser.ParseFile(token.NewFileSet(), name, nil, 0)
		if err != nil {
			t.Fatal(err)
		}
		files = append(files, file)
	}
	return files
}

// funcsOf: the package's functions and methods, a method with its type ahead.
func funcsOf(t *testing.T) map[string]*ast.FuncDecl {
	t.Helper()
	funcs := map[string]*ast.FuncDecl{}
	for _, file := range filesOf(t) {
		for _, d := range file.Decls {
			f, ok := d.(*ast.FuncDecl)
			if !ok {
				continue
			}
			name := f.Name.Name
			if f.Recv != nil {
				if p, ok := f.Recv.List[0].Type.(*ast.StarExpr); ok {
					name = p.X.(*ast.Ident).Name + "." + name
				}
			}
			funcs[name] = f
		}
	}
	return funcs
}

// catches: does f defer a function literal that recovers and asserts a type?
func catches(f *ast.FuncDecl) bool {
	found := false
	ast.Inspect(f, func(n ast.Node) bool {
		if d, ok := n.(*ast.DeferStmt); ok {
			if literal, ok := d.Call.Fun.(*ast.FuncLit); ok {
				found = found || uses(literal, "recover") && asserts(literal)
			}
		}
		return true
	})
	return found
}

func asserts(n ast.Node) bool {
	found := false
	ast.Inspect(n, func(n ast.Node) bool {
		if a, ok := n.(*ast.TypeAssertExpr); ok && a.Type != nil {
			found = true
		}
		return true
	})
	return found
}

func panicsWithFault(f *ast.FuncDecl) bool {
	found := false
	ast.Inspect(f, func(n ast.Node) bool {
		if c, ok := n.(*ast.CallExpr); ok {
			if name, ok := c.Fun.(*ast.Ident); ok && name.Name == "panic" {
				_, made := c.Args[0].(*ast.CompositeLit)
				found = found || made
			}
		}
		return true
	})
	return found
}

// uses: does an identifier of that name stand in n?
func uses(n ast.Node, name string) bool {
	found := false
	ast.Inspect(n, func(n ast.Node) bool {
		if i, ok := n.(*ast.Ident); ok && i.Name == name {
			found = true
		}
		return true
	})
	return found
}

// reaches: does from come to one of the wanted, by the names that stand in functions?
func reaches(funcs map[string]*ast.FuncDecl, from string, wanted []string) bool {
	seen := map[string]bool{from: true}
	work := []string{from}
	for len(work) > 0 {
		name := work[0]
		work = work[1:]
		for _, w := range wanted {
			if name == w {
				return true
			}
		}
		for next := range funcs {
			short := next[strings.LastIndex(next, ".")+1:]
			if !seen[next] && uses(funcs[name], short) {
				seen[next] = true
				work = append(work, next)
			}
		}
	}
	return false
}
