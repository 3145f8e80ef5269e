package cert

import (
	"go/ast"
	"go/parser"
	"go/token"
	"go/types"
	"path/filepath"
	"strings"
	"testing"
)

// source is the package's own text, with what its names stand for.
type source struct {
	files []*ast.File
	info  *types.Info
}

func readSource(t *testing.T) source {
	t.Helper()
	paths, err := filepath.Glob("*.go")
	if err != nil {
		t.Fatal(err)
	}
	fset := token.NewFileSet()
	s := source{info: &types.Info{Uses: map[*ast.Ident]types.Object{}}}
	for _, path := range paths {
		if strings.HasSuffix(path, "_test.go") {
			continue
		}
		file, err := parser.ParseFile(fset, path, nil, 0)
		if err != nil {
			t.Fatal(err)
		}
		s.files = append(s.files, file)
	}
	// Imports aren't followed: what is asked of is the package's own, and is known without them.
	config := types.Config{Error: func(error) {}}
	config.Check("lychgate/cert", fset, s.files, s.info)
	return s
}

func (s source) function(name string) *ast.FuncDecl {
	for _, file := range s.files {
		for _, d := range file.Decls {
			if f, ok := d.(*ast.FuncDecl); ok && f.Recv == nil && f.Name.Name == name {
				return f
			}
		}
	}
	return nil
}

// some: is there a node below root of which it holds?
func some(root ast.Node, holds func(ast.Node) bool) bool {
	found := false
	ast.Inspect(root, func(n ast.Node) bool {
		found = found || n != nil && holds(n)
		return !found
	})
	return found
}

// isFact: is it the type diff.Leq, by its name?
func isFact(x ast.Expr) bool {
	name, ok := x.(*ast.SelectorExpr)
	return ok && types.ExprString(name) == "diff.Leq"
}

func takesFacts(f *ast.FuncDecl) bool {
	if len(f.Type.Params.List) == 0 {
		return false
	}
	last := f.Type.Params.List[len(f.Type.Params.List)-1]
	many, ok := last.Type.(*ast.Ellipsis)
	return ok && isFact(many.Elt)
}

// tellsOdd: is it a function literal that tells something of one fact, by a variable from around it?
func (s source) tellsOdd(n ast.Node) bool {
	literal, ok := n.(*ast.FuncLit)
	if !ok || len(literal.Type.Params.List) != 1 || !isFact(literal.Type.Params.List[0].Type) {
		return false
	}
	return some(literal.Body, func(n ast.Node) bool {
		name, ok := n.(*ast.Ident)
		if !ok {
			return false
		}
		v, ok := s.info.Uses[name].(*types.Var)
		return ok && !v.IsField() && (v.Pos() < literal.Pos() || v.Pos() > literal.End())
	})
}

// TestWays holds the package to what the document's section 'Ways' says of layer 5.
func TestWays(t *testing.T) {
	s := readSource(t)
	for _, name := range []string{"Circle", "Holds", "Prove", "Check", "fit"} {
		if f := s.function(name); f == nil || !takesFacts(f) {
			t.Errorf("Ways, layer 5: facts come in through a variadic function: not in %s", name)
		}
	}
	for _, name := range []string{"Holds", "fit"} {
		if f := s.function(name); f == nil || !some(f, s.tellsOdd) {
			t.Errorf("Ways, layer 5: an odd fact is found by a closure: not in %s", name)
		}
	}
}

// reached: the package's functions that these and what they call name.
func (s source) reached(names ...string) []*ast.FuncDecl {
	var out []*ast.FuncDecl
	seen := map[*ast.FuncDecl]bool{nil: true}
	for len(names) > 0 {
		f := s.function(names[0])
		names = names[1:]
		if seen[f] {
			continue
		}
		seen[f] = true
		out = append(out, f)
		ast.Inspect(f.Body, func(n ast.Node) bool {
			if name, ok := n.(*ast.Ident); ok {
				names = append(names, name.Name)
			}
			return true
		})
	}
	return out
}

// TestCheckAsksNothingOfDiff: the checker takes from layer 4 what a fact is, and nothing else, so that a fault there can't make a wrong proof pass.
func TestCheckAsksNothingOfDiff(t *testing.T) {
	functions := readSource(t).reached("Check")
	if len(functions) < 3 {
		t.Errorf("Check reaches only %d functions: too few to tell", len(functions))
	}
	for _, f := range functions {
		if some(f, func(n ast.Node) bool {
			name, ok := n.(*ast.SelectorExpr)
			return ok && strings.HasPrefix(types.ExprString(name), "diff.") && !isFact(name)
		}) {
			t.Errorf("%s, which Check reaches, asks diff", f.Name.Name)
		}
	}
}
