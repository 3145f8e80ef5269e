package diff

import (
	"go/ast"
	"go/parser"
	"go/token"
	"go/types"
	"path/filepath"
	"strings"
	"testing"
)

// source is the package's own text, with what its expressions are.
type source struct {
	files []*ast.File
	info  *types.Info
}

func readSource(t *testing.T) source {
	t.Helper()
	paths, err := filepath.Glob("*.go")
	if err != nil {
		t.Fatal(err)
	}
	fset := token.NewFileSet()
	s := source{info: &types.Info{Types: map[ast.Expr]types.TypeAndValue{}, Uses: map[*ast.Ident]types.Object{}}}
	for _, path := range paths {
		if strings.HasSuffix(path, "_test.go") {
			continue
		}
		file, err := parser.ParseFile(fset, path, nil, 0)
		if err != nil {
			t.Fatal(err)
		}
		s.files = append(s.files, file)
	}
	// Imports aren't followed: what is asked of is the package's own, and is known without them.
	config := types.Config{Error: func(error) {}}
	config.Check("lychgate/diff", fset, s.files, s.info)
	return s
}

// some: is there a node below root of which it holds?
func some(root ast.Node, holds func(ast.Node) bool) bool {
	found := false
	ast.Inspect(root, func(n ast.Node) bool {
		found = found || n != nil && holds(n)
		return !found
	})
	return found
}

func (s source) someWhere(holds func(ast.Node) bool) bool {
	for _, file := range s.files {
		if some(file, holds) {
			return true
		}
	}
	return false
}

func (s source) function(name string) *ast.FuncDecl {
	var out *ast.FuncDecl
	s.someWhere(func(n ast.Node) bool {
		f, ok := n.(*ast.FuncDecl)
		if ok && f.Name.Name == name {
			out = f
		}
		return out != nil
	})
	return out
}

// isFact: is it the type Leq, by its name?
func isFact(x ast.Expr) bool {
	name, ok := x.(*ast.Ident)
	return ok && name.Name == "Leq"
}

func takesFacts(f *ast.FuncDecl) bool {
	if f == nil || len(f.Type.Params.List) == 0 {
		return false
	}
	last := f.Type.Params.List[len(f.Type.Params.List)-1]
	many, ok := last.Type.(*ast.Ellipsis)
	return ok && isFact(many.Elt)
}

// tellsOdd: is it a function literal that tells something of one fact, by a variable from around it?
func (s source) tellsOdd(n ast.Node) bool {
	literal, ok := n.(*ast.FuncLit)
	if !ok || len(literal.Type.Params.List) != 1 || !isFact(literal.Type.Params.List[0].Type) {
		return false
	}
	return some(literal.Body, func(n ast.Node) bool {
		name, ok := n.(*ast.Ident)
		if !ok {
			return false
		}
		v, ok := s.info.Uses[name].(*types.Var)
		return ok && !v.IsField() && (v.Pos() < literal.Pos() || v.Pos() > literal.End())
	})
}

// isRounds: is it a loop over a whole number that isn't the length of something, with a call in it?
func (s source) isRounds(n ast.Node) bool {
	loop, ok := n.(*ast.RangeStmt)
	if !ok {
		return false
	}
	if _, ok := loop.X.(*ast.Ident); !ok {
		return false
	}
	of, ok := s.info.Types[loop.X].Type.(*types.Basic)
	return ok && of.Info()&types.IsInteger != 0 && some(loop.Body, func(n ast.Node) bool {
		_, ok := n.(*ast.CallExpr)
		return ok
	})
}

// TestWays holds the package to what the document's section 'Ways' says of layer 4.
func TestWays(t *testing.T) {
	s := readSource(t)
	for _, name := range []string{"Solve", "Entails", "refusal"} {
		if !takesFacts(s.function(name)) {
			t.Errorf("Ways, layer 4: facts come in through a variadic function: not in %s", name)
		}
	}
	if !s.someWhere(s.tellsOdd) {
		t.Errorf("Ways, layer 4: an odd fact is found by a closure: not found")
	}
	if solve := s.function("Solve"); solve == nil || !some(solve, s.isRounds) {
		t.Errorf("Ways, layer 4: rounds are a range over an integer: not found")
	}
}
