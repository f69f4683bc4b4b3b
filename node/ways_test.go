package node_test

import (
	"go/ast"
	"go/parser"
	"go/token"
	"testing"
)

func parsed(t *testing.T) *ast.File {
	t.Helper()
	file, err := parser.ParseFile(token.NewFileSet(), "node.go", nil, 0)
	if err != nil {
		t.Fatal(err)
	}
	return file
}

// The document's section 'Ways' asks of layer 14 that phases are numbered by iota:
// the first of their group is iota itself, the others repeat it.
func TestWaysPhasesAreNumberedByIota(t *testing.T) {
	names := []string{"Waiting", "Ready", "Leased", "Calling", "Done", "Failed", "Skipped", "Phases"}
	group := constsOf(parsed(t), "Phase")
	if len(group) != len(names) {
		t.Fatalf("%d constants in Phase's group, not %d", len(group), len(names))
	}
	for n, s := range group {
		if len(s.Names) != 1 || s.Names[0].Name != names[n] {
			t.Errorf("the phase %d isn't %s", n, names[n])
		}
		if n > 0 && (len(s.Values) > 0 || s.Type != nil) {
			t.Errorf("%s has a value of its own", names[n])
		}
	}
	if len(group[0].Values) != 1 || !named(group[0].Values[0], "iota") {
		t.Errorf("Phase's first isn't iota")
	}
}

// And that they carry the weight: each call tells phases by these names, never by
// a number, and each phase is one that a state may be in by some call.
func TestWaysPhasesAreToldByTheirNames(t *testing.T) {
	file := parsed(t)
	used := map[string]bool{}
	ast.Inspect(file, func(n ast.Node) bool {
		switch x := n.(type) {
		case *ast.BinaryExpr:
			if isPhase(x.X) && number(x.Y) || isPhase(x.Y) && number(x.X) {
				t.Errorf("a phase is held against a number")
			}
		case *ast.CaseClause:
			for _, e := range x.List {
				if number(e) {
					t.Errorf("a case is a number")
				}
			}
		case *ast.CallExpr:
			if named(x.Fun, "Phase") || named(x.Fun, "turn") && len(x.Args) > 0 && number(x.Args[0]) {
				t.Errorf("a phase is made of a number")
			}
		case *ast.FuncDecl:
			ast.Inspect(x.Body, func(n ast.Node) bool {
				if id, ok := n.(*ast.Ident); ok {
					used[id.Name] = true
				}
				return true
			})
		}
		return true
	})
	for _, name := range []string{"Waiting", "Ready", "Leased", "Calling", "Done", "Failed", "Skipped"} {
		if !used[name] {
			t.Errorf("no call tells of %s", name)
		}
	}
}

// constsOf: the group of constants whose first is of that type.
func constsOf(file *ast.File, typ string) []*ast.ValueSpec {
	for _, d := range file.Decls {
		g, ok := d.(*ast.GenDecl)
		if !ok || g.Tok != token.CONST {
			continue
		}
		if first := g.Specs[0].(*ast.ValueSpec); !named(first.Type, typ) {
			continue
		}
		var group []*ast.ValueSpec
		for _, s := range g.Specs {
			group = append(group, s.(*ast.ValueSpec))
		}
		return group
	}
	return nil
}

func isPhase(e ast.Expr) bool { return named(e, "Phase") }

// named: is it that name, or a field or method of that name?
func named(e ast.Expr, name string) bool {
	switch x := e.(type) {
	case *ast.Ident:
		return x.Name == name
	case *ast.SelectorExpr:
		return x.Sel.Name == name
	}
	return false
}

// number: is it a number that is written out?
func number(e ast.Expr) bool {
	lit, ok := e.(*ast.BasicLit)
	return ok && lit.Kind == token.INT
}
