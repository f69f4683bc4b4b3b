package role_test

import (
	"go/ast"
	"go/parser"
	gotoken "go/token"
	"testing"
)

func parsed(t *testing.T) *ast.File {
	t.Helper()
	file, err := parser.ParseFile(gotoken.NewFileSet(), "role.go", nil, 0)
	if err != nil {
		t.Fatal(err)
	}
	return file
}

// The document's section 'Ways' asks of layer 10 that roles and ops are numbered
// by iota: the first of each group is iota itself, the others repeat it.
func TestWaysRolesAndOpsAreNumberedByIota(t *testing.T) {
	for typ, count := range map[string]int{"Role": 6, "Op": 11} {
		group := constsOf(parsed(t), typ)
		if len(group) != count {
			t.Errorf("%d constants in %s's group, not %d", len(group), typ, count)
			continue
		}
		for n, s := range group {
			if n > 0 && len(s.Values) > 0 {
				t.Errorf("%s: %s has a value of its own", typ, s.Names[0].Name)
			}
		}
		if id, ok := group[0].Values[0].(*ast.Ident); !ok || id.Name != "iota" {
			t.Errorf("%s's first isn't iota", typ)
		}
	}
}

// And that which ops a role may ask for, and their names, are constant tables,
// arrays: each is read by the call that tells of it, and is as long as its kind.
func TestWaysMasksAndNamesAreArraysOfConstants(t *testing.T) {
	file := parsed(t)
	for table, length := range map[string]string{"masks": "Roles", "names": "Ops"} {
		lit := tableOf(file, table)
		if lit == nil {
			t.Errorf("no table %s", table)
			continue
		}
		typ, ok := lit.Type.(*ast.ArrayType)
		if !ok || typ.Len == nil {
			t.Errorf("%s isn't an array", table)
			continue
		}
		if id, ok := typ.Len.(*ast.Ident); !ok || id.Name != length {
			t.Errorf("%s isn't %s long", table, length)
		}
	}
	for call, table := range map[string]string{"Mask": "masks", "Name": "names", "Find": "names"} {
		if f := funcOf(file, call); f == nil || !reads(f, table) {
			t.Errorf("%s doesn't read %s", call, table)
		}
	}
	for _, call := range []string{"Allows", "Least"} {
		if f := funcOf(file, call); f == nil || !reads(f, "Mask") && !reads(f, "Allows") {
			t.Errorf("%s doesn't ask the table of masks", call)
		}
	}
}

// constsOf: the group of constants whose first is of that type.
func constsOf(file *ast.File, typ string) []*ast.ValueSpec {
	for _, d := range file.Decls {
		g, ok := d.(*ast.GenDecl)
		if !ok || g.Tok != gotoken.CONST {
			continue
		}
		first := g.Specs[0].(*ast.ValueSpec)
		if id, ok := first.Type.(*ast.Ident); !ok || id.Name != typ {
			continue
		}
		var group []*ast.ValueSpec
		for _, s := range g.Specs {
			group = append(group, s.(*ast.ValueSpec))
		}
		return group
	}
	return nil
}

// tableOf: the literal of a table at package level.
func tableOf(file *ast.File, name string) *ast.CompositeLit {
	for _, d := range file.Decls {
		g, ok := d.(*ast.GenDecl)
		if !ok || g.Tok != gotoken.VAR {
			continue
		}
		for _, s := range g.Specs {
			if v := s.(*ast.ValueSpec); v.Names[0].Name == name && len(v.Values) == 1 {
				lit, _ := v.Values[0].(*ast.CompositeLit)
				return lit
			}
		}
	}
	return nil
}

func funcOf(file *ast.File, name string) *ast.FuncDecl {
	for _, d := range file.Decls {
		if f, ok := d.(*ast.FuncDecl); ok && f.Name.Name == name {
			return f
		}
	}
	return nil
}

func reads(f *ast.FuncDecl, name string) bool {
	found := false
	ast.Inspect(f.Body, func(n ast.Node) bool {
		if id, ok := n.(*ast.Ident); ok && id.Name == name {
			found = true
		}
		return true
	})
	return found
}
