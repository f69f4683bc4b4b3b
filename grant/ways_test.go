package grant_test

import (
	"go/ast"
	"go/parser"
	"go/token"
	"testing"
)

func parsed(t *testing.T) *ast.File {
	t.Helper()
	file, err := parser.ParseFile(token.NewFileSet(), "grant.go", nil, 0)
	if err != nil {
		t.Fatal(err)
	}
	return file
}

// The document's section 'Ways' asks of layer 11 that grants stand in a map whose
// keys are structs: it is all that a Table is, Add puts them in there, Has asks it
// (so that it holds structs against one another), and List goes through it.
func TestWaysGrantsStandInAMapOfStructs(t *testing.T) {
	file := parsed(t)
	if _, ok := typeOf(file, "Key").(*ast.StructType); !ok {
		t.Errorf("Key isn't a struct")
	}
	table, ok := typeOf(file, "Table").(*ast.StructType)
	if !ok || len(table.Fields.List) != 1 || len(table.Fields.List[0].Names) != 1 {
		t.Fatal("a Table isn't a struct of one field")
	}
	field := table.Fields.List[0]
	if m, ok := field.Type.(*ast.MapType); !ok || !named(m.Key, "Key") {
		t.Fatal("a Table's field isn't a map whose keys are Keys")
	}
	keys := field.Names[0].Name
	if !has(funcOf(file, "Add"), func(n ast.Node) bool {
		a, ok := n.(*ast.AssignStmt)
		return ok && isIndexOf(a.Lhs[0], keys)
	}) {
		t.Errorf("Add puts nothing into %s", keys)
	}
	if !has(funcOf(file, "Has"), func(n ast.Node) bool {
		a, ok := n.(*ast.AssignStmt)
		return ok && isIndexOf(a.Rhs[0], keys)
	}) {
		t.Errorf("Has doesn't ask %s", keys)
	}
	if !has(funcOf(file, "List"), func(n ast.Node) bool {
		r, ok := n.(*ast.RangeStmt)
		return ok && isField(r.X, keys)
	}) {
		t.Errorf("List doesn't go through %s", keys)
	}
}

// And that they are deleted out of it (delete).
func TestWaysGrantsAreDeleted(t *testing.T) {
	if !has(funcOf(parsed(t), "Drop"), func(n ast.Node) bool {
		call, ok := n.(*ast.CallExpr)
		return ok && named(call.Fun, "delete") && isField(call.Args[0], "keys") && named(call.Args[1], "k")
	}) {
		t.Errorf("Drop deletes nothing out of the map")
	}
}

// And that edges are arrays: of two numbers, also those turned round, which
// Reach goes along.
func TestWaysEdgesAreArrays(t *testing.T) {
	file := parsed(t)
	a, ok := typeOf(file, "Edge").(*ast.ArrayType)
	if !ok || !named(a.Elt, "int") {
		t.Fatal("an Edge isn't an array of ints")
	}
	if two, ok := a.Len.(*ast.BasicLit); !ok || two.Value != "2" {
		t.Errorf("an Edge isn't two long")
	}
	if !calls(funcOf(file, "Reach"), "bothWays") {
		t.Errorf("Reach doesn't turn edges round")
	}
	if !has(funcOf(file, "bothWays"), func(n ast.Node) bool {
		lit, ok := n.(*ast.CompositeLit)
		return ok && named(lit.Type, "Edge") && len(lit.Elts) == 2
	}) {
		t.Errorf("an edge that is turned round isn't an Edge")
	}
}

// And that a name's letters are gone through by a range over the string: Named
// goes so through the text that it was handed, and Add asks it.
func TestWaysLettersAreGoneThroughByARangeOverTheString(t *testing.T) {
	file := parsed(t)
	f := funcOf(file, "Named")
	if f == nil || len(f.Type.Params.List) != 1 || !named(f.Type.Params.List[0].Type, "string") {
		t.Fatal("Named doesn't take a string")
	}
	text := f.Type.Params.List[0].Names[0].Name
	if !has(f, func(n ast.Node) bool {
		r, ok := n.(*ast.RangeStmt)
		return ok && named(r.X, text) && r.Value != nil
	}) {
		t.Errorf("Named doesn't range over %s", text)
	}
	if has(f, func(n ast.Node) bool { i, ok := n.(*ast.IndexExpr); return ok && named(i.X, text) }) {
		t.Errorf("Named looks at bytes of %s beside its range", text)
	}
	if !calls(funcOf(file, "Add"), "Named") {
		t.Errorf("Add doesn't ask Named")
	}
}

func typeOf(file *ast.File, name string) ast.Expr {
	for _, d := range file.Decls {
		g, ok := d.(*ast.GenDecl)
		if !ok || g.Tok != token.TYPE {
			continue
		}
		for _, s := range g.Specs {
			if ts := s.(*ast.TypeSpec); ts.Name.Name == name {
				return ts.Type
			}
		}
	}
	return nil
}

func funcOf(file *ast.File, name string) *ast.FuncDecl {
	for _, d := range file.Decls {
		if f, ok := d.(*ast.FuncDecl); ok && f.Name.Name == name {
			return f
		}
	}
	return nil
}

// has: is there such a thing in f's body?
func has(f *ast.FuncDecl, such func(ast.Node) bool) bool {
	found := false
	if f != nil {
		ast.Inspect(f.Body, func(n ast.Node) bool {
			found = found || n != nil && such(n)
			return true
		})
	}
	return found
}

func calls(f *ast.FuncDecl, name string) bool {
	return has(f, func(n ast.Node) bool {
		call, ok := n.(*ast.CallExpr)
		return ok && named(call.Fun, name)
	})
}

func named(x ast.Expr, name string) bool {
	id, ok := x.(*ast.Ident)
	return ok && id.Name == name
}

func isField(x ast.Expr, name string) bool {
	s, ok := x.(*ast.SelectorExpr)
	return ok && s.Sel.Name == name
}

func isIndexOf(x ast.Expr, field string) bool {
	i, ok := x.(*ast.IndexExpr)
	return ok && isField(i.X, field)
}
