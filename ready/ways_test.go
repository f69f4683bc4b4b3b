package ready_test

import (
	"go/ast"
	"go/parser"
	"go/token"
	"testing"
)

func parsed(t *testing.T) *ast.File {
	t.Helper()
	file, err := parser.ParseFile(token.NewFileSet(), "ready.go", nil, 0)
	if err != nil {
		t.Fatal(err)
	}
	return file
}

// The document's section 'Ways' asks of layer 13 that the bits of a number are
// ranged over by an iterator, which is a closure: places answers one that goes on
// from the number it was handed, and hands each place on till it is told to stop.
func TestWaysTheIteratorIsAClosure(t *testing.T) {
	f := funcOf(parsed(t), "places")
	if f == nil || len(f.Type.Params.List) != 1 || f.Type.Results == nil {
		t.Fatal("places doesn't take a number and answer an iterator")
	}
	if len(f.Body.List) != 1 {
		t.Fatal("places does more than to answer an iterator")
	}
	answer, ok := f.Body.List[0].(*ast.ReturnStmt)
	if !ok || len(answer.Results) != 1 {
		t.Fatal("places doesn't answer an iterator")
	}
	closure, ok := answer.Results[0].(*ast.FuncLit)
	if !ok || len(closure.Type.Params.List) != 1 {
		t.Fatal("what places answers isn't a closure")
	}
	number := f.Type.Params.List[0].Names[0].Name
	if !within(closure.Body, func(n ast.Node) bool { id, ok := n.(*ast.Ident); return ok && id.Name == number }) {
		t.Errorf("the iterator doesn't hang on %s", number)
	}
	yield := closure.Type.Params.List[0].Names[0].Name
	if !within(closure.Body, func(n ast.Node) bool {
		stop, ok := n.(*ast.IfStmt)
		return ok && within(stop.Cond, func(n ast.Node) bool { return callOf(n, yield) }) &&
			within(stop.Body, func(n ast.Node) bool { _, ok := n.(*ast.ReturnStmt); return ok })
	}) {
		t.Errorf("the iterator doesn't stop when it is told to")
	}
}

// And that it is what the calls go through bits by: Ready, Behind and Depths range
// over it, Order does by way of Ready and least, List collects it; nothing else
// finds a bit's place, and no loop goes up over places instead.
func TestWaysBitsAreRangedOverByIt(t *testing.T) {
	file := parsed(t)
	for _, name := range []string{"Ready", "Behind", "Depths", "least"} {
		if !has(funcOf(file, name), func(n ast.Node) bool {
			r, ok := n.(*ast.RangeStmt)
			return ok && callOf(r.X, "places")
		}) {
			t.Errorf("%s doesn't range over places", name)
		}
	}
	for from, to := range map[string][]string{"Order": {"Ready", "least"}, "List": {"places"}, "Depths": {"Order"}} {
		for _, name := range to {
			if !has(funcOf(file, from), func(n ast.Node) bool { return callOf(n, name) }) {
				t.Errorf("%s doesn't call %s", from, name)
			}
		}
	}
	for _, d := range file.Decls {
		f, ok := d.(*ast.FuncDecl)
		if !ok || f.Name.Name == "places" {
			continue
		}
		if has(f, findsAPlace) {
			t.Errorf("%s finds a bit's place itself", f.Name.Name)
		}
	}
}

// findsAPlace: does it ask package bits, shift to the right, count upwards, or
// range over numbers?
func findsAPlace(n ast.Node) bool {
	switch x := n.(type) {
	case *ast.SelectorExpr:
		return named(x.X, "bits")
	case *ast.BinaryExpr:
		return x.Op == token.SHR
	case *ast.AssignStmt:
		return x.Tok == token.SHR_ASSIGN
	case *ast.IncDecStmt:
		return true
	case *ast.RangeStmt:
		return !callOf(x.X, "places") && !callOf(x.X, "Order")
	}
	return false
}

func funcOf(file *ast.File, name string) *ast.FuncDecl {
	for _, d := range file.Decls {
		if f, ok := d.(*ast.FuncDecl); ok && f.Name.Name == name {
			return f
		}
	}
	return nil
}

// has: is there such a thing in f's body?
func has(f *ast.FuncDecl, such func(ast.Node) bool) bool {
	return f != nil && within(f.Body, such)
}

func within(part ast.Node, such func(ast.Node) bool) bool {
	found := false
	ast.Inspect(part, func(n ast.Node) bool {
		found = found || n != nil && such(n)
		return true
	})
	return found
}

func callOf(n ast.Node, name string) bool {
	call, ok := n.(*ast.CallExpr)
	return ok && named(call.Fun, name)
}

func named(x ast.Expr, name string) bool {
	id, ok := x.(*ast.Ident)
	return ok && id.Name == name
}
