package disk_test

import (
	"go/ast"
	"go/parser"
	"go/token"
	"path/filepath"
	"strings"
	"testing"
)

// The document's section 'Ways' asks of layer 6 that which writes are kept is
// told by a closure: what empties a queue takes a function of a write's number,
// Flush and a loss of power hand it one, and no other way makes writes lasting.
func TestWaysKeptIsToldByAClosure(t *testing.T) {
	funcs := funcsOf(filesOf(t))
	var settling []string
	for name, f := range funcs {
		if asksByNumber(f) {
			settling = append(settling, name)
		}
	}
	if len(settling) != 1 {
		t.Fatalf("what asks whether a write is kept: %v", settling)
	}
	for _, name := range []string{"Write", "Flush", "Crash"} {
		if funcs[name] == nil || !reaches(funcs, name, settling[0]) {
			t.Errorf("%s doesn't come to %s", name, settling[0])
		}
	}
	told := 0
	for name, f := range funcs {
		for _, call := range callsOf(f, settling[0]) {
			told++
			if len(call.Args) != 1 || !isClosure(funcs, call.Args[0]) {
				t.Errorf("%s hands %s no closure", name, settling[0])
			}
		}
	}
	if told < 2 {
		t.Errorf("%s is called at %d places", settling[0], told)
	}
}

// Sizes come in through a variadic function, and so do the numbers of writes to be kept.
func TestWaysVariadic(t *testing.T) {
	funcs := funcsOf(filesOf(t))
	for name, kind := range map[string]string{"New": "int", "Cut": "uint64", "Crash": "uint64"} {
		params := funcs[name].Type.Params.List
		last, ok := params[len(params)-1].Type.(*ast.Ellipsis)
		if !ok || !named(last.Elt, kind) {
			t.Errorf("%s isn't variadic", name)
		}
	}
}

// What Cut is told is copied: its numbers are used nowhere but as what is cloned, or copied out of.
func TestWaysCutCopies(t *testing.T) {
	f := funcsOf(filesOf(t))["Cut"]
	params := f.Type.Params.List
	keep := params[len(params)-1].Names[0].Name
	uses, copies := 0, 0
	ast.Inspect(f.Body, func(n ast.Node) bool {
		switch x := n.(type) {
		case *ast.KeyValueExpr: // a field's name is no use of what is so called
			ast.Inspect(x.Value, func(n ast.Node) bool { count(n, keep, &uses, &copies); return true })
			return false
		default:
			count(n, keep, &uses, &copies)
		}
		return true
	})
	if copies != 1 || uses != 1 {
		t.Errorf("%s is copied %d times, used %d times", keep, copies, uses)
	}
}

// count: is it the name, or a call that copies what is so called?
func count(n ast.Node, name string, uses, copies *int) {
	switch x := n.(type) {
	case *ast.Ident:
		if x.Name == name {
			*uses++
		}
	case *ast.CallExpr:
		of, isSelector := x.Fun.(*ast.SelectorExpr)
		cloned := isSelector && named(of.X, "slices") && of.Sel.Name == "Clone" && named(x.Args[0], name)
		copied := named(x.Fun, "copy") && named(x.Args[1], name)
		if cloned || copied {
			*copies++
		}
	}
}

func filesOf(t *testing.T) []*ast.File {
	t.Helper()
	names, err := filepath.Glob("*.go")
	if err != nil {
		t.Fatal(err)
	}
	var files []*ast.File
	for _, name := range names {
		if strings.HasSuffix(name, "_test.go") {
			continue
		}
		file, err := parser.ParseFile(token.NewFileSet(), name, nil, 0)
		if err != nil {
			t.Fatal(err)
		}
		files = append(files, file)
	}
	return files
}

// funcsOf: the functions and methods by their names, of which no two are the same.
func funcsOf(files []*ast.File) map[string]*ast.FuncDecl {
	funcs := map[string]*ast.FuncDecl{}
	for _, file := range files {
		for _, d := range file.Decls {
			if f, ok := d.(*ast.FuncDecl); ok {
				funcs[f.Name.Name] = f
			}
		}
	}
	return funcs
}

// asksByNumber: does f take a func(int) bool?
func asksByNumber(f *ast.FuncDecl) bool {
	for _, p := range f.Type.Params.List {
		if asked, ok := p.Type.(*ast.FuncType); ok && isTest(asked) {
			return true
		}
	}
	return false
}

func isTest(f *ast.FuncType) bool {
	return len(f.Params.List) == 1 && named(f.Params.List[0].Type, "int") &&
		f.Results != nil && len(f.Results.List) == 1 && named(f.Results.List[0].Type, "bool")
}

// isClosure: is it a function literal, or a call of what answers function literals alone?
func isClosure(funcs map[string]*ast.FuncDecl, x ast.Expr) bool {
	if _, ok := x.(*ast.FuncLit); ok {
		return true
	}
	call, ok := x.(*ast.CallExpr)
	if !ok {
		return false
	}
	made, ok := call.Fun.(*ast.Ident)
	return ok && funcs[made.Name] != nil && answersClosures(funcs[made.Name])
}

func answersClosures(f *ast.FuncDecl) bool {
	all, some := true, false
	ast.Inspect(f.Body, func(n ast.Node) bool {
		switch x := n.(type) {
		case *ast.FuncLit: // what it answers itself is its own matter
			return false
		case *ast.ReturnStmt:
			_, ok := x.Results[0].(*ast.FuncLit)
			all, some = all && ok, true
		}
		return true
	})
	return all && some
}

func callsOf(f *ast.FuncDecl, name string) []*ast.CallExpr {
	var calls []*ast.CallExpr
	ast.Inspect(f.Body, func(n ast.Node) bool {
		if call, ok := n.(*ast.CallExpr); ok {
			if of, ok := call.Fun.(*ast.SelectorExpr); ok && of.Sel.Name == name || named(call.Fun, name) {
				calls = append(calls, call)
			}
		}
		return true
	})
	return calls
}

// reaches: does from come to the wanted one, by the names that stand in functions?
func reaches(funcs map[string]*ast.FuncDecl, from, wanted string) bool {
	seen := map[string]bool{}
	var look func(name string)
	look = func(name string) {
		if seen[name] || funcs[name] == nil {
			return
		}
		seen[name] = true
		ast.Inspect(funcs[name].Body, func(n ast.Node) bool {
			if i, ok := n.(*ast.Ident); ok {
				look(i.Name)
			}
			return true
		})
	}
	look(from)
	return seen[wanted]
}

func named(x ast.Expr, name string) bool {
	i, ok := x.(*ast.Ident)
	return ok && i.Name == name
}
