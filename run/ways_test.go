package run_test

import (
	"go/ast"
	"go/parser"
	"go/token"
	"slices"
	"testing"
)

func parsed(t *testing.T) *ast.File {
	t.Helper()
	file, err := parser.ParseFile(token.NewFileSet(), "run.go", nil, 0)
	if err != nil {
		t.Fatal(err)
	}
	return file
}

// The document's section 'Ways' asks of layer 15 that what a step makes of a node
// is a closure: each step hands one on, which asks layer 14 for what becomes of
// the state that it is handed.
func TestWaysWhatAStepMakesIsAClosure(t *testing.T) {
	file := parsed(t)
	for _, x := range []struct {
		step, to string
		asks     []string
	}{
		{"Lease", "stepped", []string{"Lease"}},
		{"Finish", "stepped", []string{"Finish"}},
		{"Answer", "stepped", []string{"Answer"}},
		{"Expire", "remake", []string{"Expire"}},
		{"settle", "remake", []string{"Skip", "Wake"}},
	} {
		made := closureFor(funcOf(file, x.step), x.to)
		if made == nil {
			t.Errorf("%s doesn't hand a closure to %s", x.step, x.to)
			continue
		}
		for _, call := range x.asks {
			if !asksOf(made, lastParameter(made), call) {
				t.Errorf("the closure of %s doesn't ask the state for %s", x.step, call)
			}
		}
	}
	for from, to := range map[string]string{"Begin": "settled", "Finish": "settled", "Answer": "settled", "Expire": "settled", "settled": "settle", "stepped": "remake"} {
		if !calls(funcOf(file, from), to) {
			t.Errorf("%s doesn't call %s", from, to)
		}
	}
}

// And that they carry the weight: remake alone puts a state in a run's node, and
// it is what the closure that it was handed makes; no step asks layer 14 beside
// its closure.
func TestWaysNoStateIsMadeBesideAClosure(t *testing.T) {
	file := parsed(t)
	by := lastParameter(funcOf(file, "remake").Type)
	if !has(funcOf(file, "remake").Body, func(n ast.Node) bool {
		c, ok := n.(*ast.CallExpr)
		return ok && named(c.Fun, by) && len(c.Args) == 2
	}) {
		t.Errorf("remake doesn't ask the closure that it is handed")
	}
	for _, d := range file.Decls {
		f, ok := d.(*ast.FuncDecl)
		if !ok {
			continue
		}
		if f.Name.Name != "remake" && has(f.Body, putsAState) {
			t.Errorf("%s puts a state in a run's node", f.Name.Name)
		}
		if asksBesideClosures(f) {
			t.Errorf("%s asks layer 14 beside a closure", f.Name.Name)
		}
	}
	if !has(funcOf(file, "remake").Body, putsAState) {
		t.Errorf("remake puts no state in a run's node")
	}
}

// Statuses are numbered by iota: the first of their group is iota itself, the others repeat it.
func TestWaysStatusesAreNumberedByIota(t *testing.T) {
	names := []string{"Running", "Succeeded", "Broken"}
	file := parsed(t)
	group := constsOf(file, "Status")
	if len(group) != len(names) {
		t.Fatalf("%d constants in Status's group, not %d", len(group), len(names))
	}
	for n, s := range group {
		if len(s.Names) != 1 || s.Names[0].Name != names[n] {
			t.Errorf("the status %d isn't %s", n, names[n])
		}
		if n > 0 && (len(s.Values) > 0 || s.Type != nil) {
			t.Errorf("%s has a value of its own", names[n])
		}
	}
	if len(group[0].Values) != 1 || !named(group[0].Values[0], "iota") {
		t.Errorf("Status's first isn't iota")
	}
	told := 0
	ast.Inspect(funcOf(file, "Status").Body, func(n ast.Node) bool {
		if r, ok := n.(*ast.ReturnStmt); ok && len(r.Results) == 1 {
			id, ok := r.Results[0].(*ast.Ident)
			if ok && slices.Contains(names, id.Name) {
				told++
			}
		}
		return true
	})
	if told != len(names) {
		t.Errorf("Status tells %d statuses by their names", told)
	}
}

// closureFor: the closure that a function hands to another one as its last argument.
func closureFor(f *ast.FuncDecl, to string) *ast.FuncLit {
	var made *ast.FuncLit
	if f == nil {
		return nil
	}
	ast.Inspect(f.Body, func(n ast.Node) bool {
		if c, ok := n.(*ast.CallExpr); ok && named(c.Fun, to) && len(c.Args) > 0 {
			if lit, ok := c.Args[len(c.Args)-1].(*ast.FuncLit); ok {
				made = lit
			}
		}
		return true
	})
	return made
}

// lastParameter: the name of a function's, or a closure's, last parameter.
func lastParameter(n ast.Node) string {
	typ, ok := n.(*ast.FuncType)
	if lit, isLit := n.(*ast.FuncLit); isLit {
		typ, ok = lit.Type, true
	}
	if !ok || len(typ.Params.List) == 0 {
		return ""
	}
	names := typ.Params.List[len(typ.Params.List)-1].Names
	return names[len(names)-1].Name
}

// asksOf: is that method of the thing by that name called within?
func asksOf(within ast.Node, name, method string) bool {
	return has(within, func(n ast.Node) bool {
		c, ok := n.(*ast.CallExpr)
		if !ok {
			return false
		}
		s, ok := c.Fun.(*ast.SelectorExpr)
		return ok && s.Sel.Name == method && named(s.X, name)
	})
}

// putsAState: does it write into an element of a run's Nodes?
func putsAState(n ast.Node) bool {
	a, ok := n.(*ast.AssignStmt)
	return ok && slices.ContainsFunc(a.Lhs, func(e ast.Expr) bool {
		x, ok := e.(*ast.IndexExpr)
		return ok && named(x.X, "Nodes")
	})
}

// asksBesideClosures: is one of layer 14's steps asked for outside of all closures?
func asksBesideClosures(f *ast.FuncDecl) bool {
	found := false
	ast.Inspect(f.Body, func(n ast.Node) bool {
		if c, ok := n.(*ast.CallExpr); ok {
			s, ok := c.Fun.(*ast.SelectorExpr)
			found = found || ok && slices.Contains([]string{"Wake", "Skip", "Lease", "Finish", "Answer", "Expire"}, s.Sel.Name)
		}
		_, closure := n.(*ast.FuncLit)
		return !closure
	})
	return found
}

// constsOf: the group of constants whose first is of that type.
func constsOf(file *ast.File, typ string) []*ast.ValueSpec {
	for _, d := range file.Decls {
		g, ok := d.(*ast.GenDecl)
		if !ok || g.Tok != token.CONST {
			continue
		}
		if first := g.Specs[0].(*ast.ValueSpec); !named(first.Type, typ) {
			continue
		}
		var group []*ast.ValueSpec
		for _, s := range g.Specs {
			group = append(group, s.(*ast.ValueSpec))
		}
		return group
	}
	return nil
}

func funcOf(file *ast.File, name string) *ast.FuncDecl {
	for _, d := range file.Decls {
		if f, ok := d.(*ast.FuncDecl); ok && f.Name.Name == name {
			return f
		}
	}
	return nil
}

// has: is there such a thing within?
func has(within ast.Node, such func(ast.Node) bool) bool {
	found := false
	ast.Inspect(within, func(n ast.Node) bool {
		found = found || n != nil && such(n)
		return true
	})
	return found
}

func calls(f *ast.FuncDecl, name string) bool {
	return f != nil && has(f.Body, func(n ast.Node) bool {
		c, ok := n.(*ast.CallExpr)
		return ok && named(c.Fun, name)
	})
}

// named: is it that name, or a field or method of that name?
func named(e ast.Expr, name string) bool {
	switch x := e.(type) {
	case *ast.Ident:
		return x.Name == name
	case *ast.SelectorExpr:
		return x.Sel.Name == name
	}
	return false
}
