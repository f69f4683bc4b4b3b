package area_test

import (
	"go/ast"
	"go/parser"
	"go/token"
	"path/filepath"
	"strings"
	"testing"
)

// The document's section 'Ways' asks of layer 7 that a cell's bytes are copied
// (copy) into an array: just one function makes sectors, of an array of a
// sector's length, into which all that a cell has comes by copy; and every call
// comes to it, or (Newest and Join by Parse) to what is made by it.
func TestWaysBytesAreCopiedIntoAnArray(t *testing.T) {
	funcs := funcsOf(filesOf(t))
	var making []string
	for name, f := range funcs {
		if len(arraysOf(f)) != 0 {
			making = append(making, name)
		}
	}
	if len(making) != 1 {
		t.Fatalf("what has an array: %v", making)
	}
	f := funcs[making[0]]
	arrays := arraysOf(f)
	if len(arrays) != 1 {
		t.Fatalf("%s has %d arrays", making[0], len(arrays))
	}
	for _, field := range []string{"Gen", "Index", "Data"} {
		if !copiedInto(f, arrays[0], field) {
			t.Errorf("%s isn't copied into %s", field, arrays[0])
		}
	}
	if stored(f, arrays[0]) {
		t.Errorf("%s is filled otherwise than by copy", arrays[0])
	}
	for _, name := range []string{"Make", "Parse", "Split", "Join", "Newest"} {
		if funcs[name] == nil || !reaches(funcs, name, making[0]) {
			t.Errorf("%s doesn't come to %s", name, making[0])
		}
	}
}

// arraysOf: the names of f's variables that are arrays of bytes.
func arraysOf(f *ast.FuncDecl) []string {
	var names []string
	ast.Inspect(f, func(n ast.Node) bool {
		if v, ok := n.(*ast.ValueSpec); ok {
			if a, ok := v.Type.(*ast.ArrayType); ok && a.Len != nil && named(a.Elt, "byte") {
				names = append(names, v.Names[0].Name)
			}
		}
		return true
	})
	return names
}

// copiedInto: is there a call of copy into the array of what speaks of the field?
func copiedInto(f *ast.FuncDecl, array, field string) bool {
	found := false
	ast.Inspect(f, func(n ast.Node) bool {
		call, ok := n.(*ast.CallExpr)
		if !ok || !named(call.Fun, "copy") {
			return true
		}
		into, ok := call.Args[0].(*ast.SliceExpr)
		if ok && named(into.X, array) && speaksOf(call.Args[1], field) {
			found = true
		}
		return true
	})
	return found
}

func speaksOf(x ast.Expr, field string) bool {
	found := false
	ast.Inspect(x, func(n ast.Node) bool {
		if s, ok := n.(*ast.SelectorExpr); ok && s.Sel.Name == field {
			found = true
		}
		return true
	})
	return found
}

// stored: is something assigned to the array, or to an element of it?
func stored(f *ast.FuncDecl, array string) bool {
	found := false
	ast.Inspect(f, func(n ast.Node) bool {
		if a, ok := n.(*ast.AssignStmt); ok {
			for _, to := range a.Lhs {
				element, isElement := to.(*ast.IndexExpr)
				if named(to, array) || isElement && named(element.X, array) {
					found = true
				}
			}
		}
		return true
	})
	return found
}

func filesOf(t *testing.T) []*ast.File {
	t.Helper()
	names, err := filepath.Glob("*.go")
	if err != nil {
		t.Fatal(err)
	}
	var files []*ast.File
	for _, name := range names {
		if strings.HasSuffix(name, "_test.go") {
			continue
		}
		file, err := parser.ParseFile(token.NewFileSet(), name, nil, 0)
		if err != nil {
			t.Fatal(err)
		}
		files = append(files, file)
	}
	return files
}

func funcsOf(files []*ast.File) map[string]*ast.FuncDecl {
	funcs := map[string]*ast.FuncDecl{}
	for _, file := range files {
		for _, d := range file.Decls {
			if f, ok := d.(*ast.FuncDecl); ok {
				funcs[f.Name.Name] = f
			}
		}
	}
	return funcs
}

// reaches: does from come to the wanted one, by the names that stand in functions?
func reaches(funcs map[string]*ast.FuncDecl, from, wanted string) bool {
	seen := map[string]bool{}
	var look func(name string)
	look = func(name string) {
		if seen[name] || funcs[name] == nil {
			return
		}
		seen[name] = true
		ast.Inspect(funcs[name].Body, func(n ast.Node) bool {
			if i, ok := n.(*ast.Ident); ok {
				look(i.Name)
			}
			return true
		})
	}
	look(from)
	return seen[wanted]
}

func named(x ast.Expr, name string) bool {
	i, ok := x.(*ast.Ident)
	return ok && i.Name == name
}
