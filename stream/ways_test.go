package stream_test

import (
	"go/ast"
	"go/parser"
	"go/token"
	"path/filepath"
	"strings"
	"testing"

	"precinct/api"
	"precinct/stream"
)

// The document's section 'Ways' asks of layer 8 that bodies come in through a
// variadic function: Reset takes them so, one by one, none, or as a list; and
// what Open finds is laid anew through it, too.
func TestWaysBodiesComeInThroughAVariadicFunction(t *testing.T) {
	var reset func(*stream.Stream, ...string) api.Errno = (*stream.Stream).Reset
	if reset(nil) != api.ErrNil || reset(nil, "a") != api.ErrNil || reset(nil, []string{"a", "b"}...) != api.ErrNil {
		t.Errorf("Reset of nil")
	}
	funcs := funcsOf(t)
	for name, f := range funcs {
		for _, p := range f.Type.Params.List {
			if _, list := p.Type.(*ast.ArrayType); list && named(p.Names[0], "bodies") {
				t.Errorf("%s takes bodies as a list", name)
			}
		}
	}
	if !handsOn(funcs["Open"], "Reset") {
		t.Errorf("Open doesn't hand what it finds to Reset")
	}
}

// handsOn: does f call a function of that name with a list for its variadic parameter?
func handsOn(f *ast.FuncDecl, name string) bool {
	found := false
	ast.Inspect(f, func(n ast.Node) bool {
		call, ok := n.(*ast.CallExpr)
		if !ok || !call.Ellipsis.IsValid() {
			return true
		}
		if s, ok := call.Fun.(*ast.SelectorExpr); ok && s.Sel.Name == name {
			found = true
		}
		return true
	})
	return found
}

func funcsOf(t *testing.T) map[string]*ast.FuncDecl {
	t.Helper()
	names, err := filepath.Glob("*.go")
	if err != nil {
		t.Fatal(err)
	}
	funcs := map[string]*ast.FuncDecl{}
	for _, name := range names {
		if strings.HasSuffix(name, "_test.go") {
			continue
		}
		file, err := parser.ParseFile(token.NewFileSet(), name, nil, 0)
		if err != nil {
			t.Fatal(err)
		}
		for _, d := range file.Decls {
			if f, ok := d.(*ast.FuncDecl); ok {
				funcs[f.Name.Name] = f
			}
		}
	}
	return funcs
}

func named(x *ast.Ident, name string) bool { return x.Name == name }
