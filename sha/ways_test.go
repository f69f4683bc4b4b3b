package sha_test

import (
	"go/ast"
	"go/parser"
	"go/token"
	"strconv"
	"testing"
)

// The document's section 'Ways' asks of layer 4 that a state is an array.
func TestWaysStateIsAnArray(t *testing.T) {
	for _, d := range parsed(t, "sha.go").Decls {
		for _, s := range specsOf(d, token.TYPE) {
			kind, ok := s.(*ast.TypeSpec)
			if !ok || kind.Name.Name != "State" {
				continue
			}
			if array, ok := kind.Type.(*ast.ArrayType); !ok || array.Len == nil {
				t.Error("State is no array")
			}
			return
		}
	}
	t.Error("no type State")
}

// The document's section 'Ways' asks of layer 4 that the rounds' numbers are a
// constant table: written out at package level, read by Block, and never changed.
func TestWaysRoundsNumbersAreAConstantTable(t *testing.T) {
	file := parsed(t, "block.go")
	name, numbers := tableOf(file)
	if name == "" {
		t.Fatal("no table")
	}
	want := cubicRoots()
	if len(numbers) != len(want) {
		t.Fatalf("the table has %d numbers, want %d", len(numbers), len(want))
	}
	for i, n := range numbers {
		if n != want[i] {
			t.Errorf("number %d is %x, want %x", i, n, want[i])
		}
	}
	if !readBy(file, "Block", name) {
		t.Errorf("Block doesn't read %s", name)
	}
	if changed(file, name) {
		t.Errorf("%s is assigned, or its address taken", name)
	}
}

func parsed(t *testing.T, name string) *ast.File {
	t.Helper()
	file, err := parser.ParseFile(token.NewFileSet(), name, nil, 0)
	if err != nil {
		t.Fatal(err)
	}
	return file
}

func specsOf(d ast.Decl, kind token.Token) []ast.Spec {
	if g, ok := d.(*ast.GenDecl); ok && g.Tok == kind {
		return g.Specs
	}
	return nil
}

// tableOf: the file's variable at package level that is an array of numbers written out.
func tableOf(file *ast.File) (string, []uint32) {
	for _, d := range file.Decls {
		for _, s := range specsOf(d, token.VAR) {
			v := s.(*ast.ValueSpec)
			if len(v.Names) != 1 || len(v.Values) != 1 {
				continue
			}
			table, ok := v.Values[0].(*ast.CompositeLit)
			if !ok {
				continue
			}
			if array, ok := table.Type.(*ast.ArrayType); ok && array.Len != nil {
				return v.Names[0].Name, numbersOf(table)
			}
		}
	}
	return "", nil
}

// numbersOf: the literal numbers of a table, up to the first element that isn't one.
func numbersOf(table *ast.CompositeLit) []uint32 {
	var numbers []uint32
	for _, x := range table.Elts {
		literal, ok := x.(*ast.BasicLit)
		if !ok {
			return numbers
		}
		n, err := strconv.ParseUint(literal.Value, 0, 32)
		if err != nil {
			return numbers
		}
		numbers = append(numbers, uint32(n))
	}
	return numbers
}

func readBy(file *ast.File, name, table string) bool {
	found := false
	for _, d := range file.Decls {
		if f, ok := d.(*ast.FuncDecl); ok && f.Name.Name == name {
			ast.Inspect(f.Body, func(n ast.Node) bool {
				if x, ok := n.(*ast.IndexExpr); ok && named(x.X, table) {
					found = true
				}
				return true
			})
		}
	}
	return found
}

// changed: does a place of the file write to the table, slice it, or take its address?
func changed(file *ast.File, table string) bool {
	found := false
	ast.Inspect(file, func(n ast.Node) bool {
		switch x := n.(type) {
		case *ast.AssignStmt:
			for _, to := range x.Lhs {
				found = found || rooted(to, table)
			}
		case *ast.IncDecStmt:
			found = found || rooted(x.X, table)
		case *ast.UnaryExpr:
			found = found || x.Op == token.AND && rooted(x.X, table)
		case *ast.SliceExpr:
			found = found || rooted(x.X, table)
		}
		return true
	})
	return found
}

// rooted: is it the table, or an element of it?
func rooted(x ast.Expr, table string) bool {
	if at, ok := x.(*ast.IndexExpr); ok {
		return rooted(at.X, table)
	}
	return named(x, table)
}

func named(x ast.Expr, name string) bool {
	i, ok := x.(*ast.Ident)
	return ok && i.Name == name
}
