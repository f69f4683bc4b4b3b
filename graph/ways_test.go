package graph_test

import (
	"go/ast"
	"go/parser"
	"go/token"
	"testing"
)

func parsed(t *testing.T) *ast.File {
	t.Helper()
	file, err := parser.ParseFile(token.NewFileSet(), "graph.go", nil, 0)
	if err != nil {
		t.Fatal(err)
	}
	return file
}

// The document's section 'Ways' asks of layer 12 that nodes are looked for by a
// closure: find hands one on that holds each node's name against the name it was
// handed, and both Check's steps and Masks find nodes so, not in another way.
func TestWaysNodesAreLookedForByAClosure(t *testing.T) {
	file := parsed(t)
	find := funcOf(file, "find")
	if find == nil || len(find.Type.Params.List) != 2 {
		t.Fatal("find doesn't take nodes and a name")
	}
	name := find.Type.Params.List[1].Names[0].Name
	if !has(find, func(n ast.Node) bool {
		lit, ok := n.(*ast.FuncLit)
		return ok && comparesNameTo(lit, name)
	}) || has(find, func(n ast.Node) bool { _, ok := n.(*ast.RangeStmt); return ok }) {
		t.Errorf("find doesn't look by a closure")
	}
	for _, f := range []string{"checkNode", "soundDeps", "Masks"} {
		if !calls(funcOf(file, f), "find") {
			t.Errorf("%s doesn't find nodes", f)
		}
		if !calledFrom(file, "Check", f) {
			t.Errorf("Check doesn't call %s", f)
		}
	}
	for _, d := range file.Decls {
		f, ok := d.(*ast.FuncDecl)
		if ok && f.Name.Name != "find" && has(f, func(n ast.Node) bool {
			b, ok := n.(*ast.BinaryExpr)
			return ok && b.Op == token.EQL && (isField(b.X, "Name") || isField(b.Y, "Name"))
		}) {
			t.Errorf("%s looks for a name beside find", f.Name.Name)
		}
	}
}

// And that kinds of values come in through a variadic function: listOf, which
// Read asks of the workflow, and of each node.
func TestWaysKindsComeInThroughAVariadicFunction(t *testing.T) {
	file := parsed(t)
	f := funcOf(file, "listOf")
	if f == nil || len(f.Type.Params.List) != 2 {
		t.Fatal("listOf doesn't take a value and kinds")
	}
	last := f.Type.Params.List[1]
	many, ok := last.Type.(*ast.Ellipsis)
	if !ok || !isField(many.Elt, "Kind") {
		t.Fatal("listOf isn't variadic in pack.Kind")
	}
	kinds := last.Names[0].Name
	if !has(f, func(n ast.Node) bool {
		r, ok := n.(*ast.RangeStmt)
		return ok && named(r.X, kinds)
	}) {
		t.Errorf("listOf doesn't go through %s", kinds)
	}
	for from, count := range map[string]int{"Read": 2, "nodeOfValue": 6} {
		if !has(funcOf(file, from), func(n ast.Node) bool {
			c, ok := n.(*ast.CallExpr)
			return ok && named(c.Fun, "listOf") && len(c.Args) == 1+count
		}) {
			t.Errorf("%s doesn't hand %d kinds to listOf", from, count)
		}
	}
	if !calls(funcOf(file, "Read"), "nodeOfValue") {
		t.Errorf("Read doesn't read nodes by nodeOfValue")
	}
}

// comparesNameTo: does a closure hold a Name against that of the function around
// it?
func comparesNameTo(lit *ast.FuncLit, name string) bool {
	found := false
	ast.Inspect(lit.Body, func(n ast.Node) bool {
		b, ok := n.(*ast.BinaryExpr)
		found = found || ok && b.Op == token.EQL && isField(b.X, "Name") && named(b.Y, name)
		return true
	})
	return found
}

// calledFrom: does one function call another, by way of any others of the file?
func calledFrom(file *ast.File, from, to string) bool {
	seen := map[string]bool{}
	var come func(name string) bool
	come = func(name string) bool {
		if name == to {
			return true
		}
		f := funcOf(file, name)
		if f == nil || seen[name] {
			return false
		}
		seen[name] = true
		return has(f, func(n ast.Node) bool {
			c, ok := n.(*ast.CallExpr)
			if !ok {
				return false
			}
			id, ok := c.Fun.(*ast.Ident)
			return ok && come(id.Name)
		})
	}
	return come(from)
}

func funcOf(file *ast.File, name string) *ast.FuncDecl {
	for _, d := range file.Decls {
		if f, ok := d.(*ast.FuncDecl); ok && f.Name.Name == name {
			return f
		}
	}
	return nil
}

// has: is there such a thing in f's body?
func has(f *ast.FuncDecl, such func(ast.Node) bool) bool {
	found := false
	if f != nil {
		ast.Inspect(f.Body, func(n ast.Node) bool {
			found = found || n != nil && such(n)
			return true
		})
	}
	return found
}

func calls(f *ast.FuncDecl, name string) bool {
	return has(f, func(n ast.Node) bool {
		call, ok := n.(*ast.CallExpr)
		return ok && named(call.Fun, name)
	})
}

func named(x ast.Expr, name string) bool {
	id, ok := x.(*ast.Ident)
	return ok && id.Name == name
}

func isField(x ast.Expr, name string) bool {
	s, ok := x.(*ast.SelectorExpr)
	return ok && s.Sel.Name == name
}
