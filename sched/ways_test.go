package sched

import (
	"go/ast"
	"go/build"
	"go/parser"
	"go/token"
	"slices"
	"strings"
	"testing"
)

// source: the package's own text, without its tests.
func source(t *testing.T) []*ast.File {
	t.Helper()
	p, err := build.ImportDir(".", 0)
	if err != nil {
		t.Fatal(err)
	}
	var files []*ast.File
	for _, name := range p.GoFiles {
		file, err := parser.ParseFile(token.NewFileSet(), name, nil, 0)
		if err != nil {
			t.Fatal(err)
		}
		files = append(files, file)
	}
	return files
}

// function: the function of that name.
func function(t *testing.T, name string) *ast.FuncDecl {
	t.Helper()
	for _, file := range source(t) {
		for _, d := range file.Decls {
			if f, ok := d.(*ast.FuncDecl); ok && f.Name.Name == name && f.Recv == nil {
				return f
			}
		}
	}
	t.Fatalf("there is no function %s", name)
	return nil
}

// some: is there a node below root of which it holds?
func some(root ast.Node, holds func(ast.Node) bool) bool {
	found := false
	ast.Inspect(root, func(n ast.Node) bool {
		found = found || n != nil && holds(n)
		return !found
	})
	return found
}

func isName(n ast.Node, want string) bool {
	name, ok := n.(*ast.Ident)
	return ok && name.Name == want
}

func isCallOf(n ast.Node, name string) bool {
	call, ok := n.(*ast.CallExpr)
	return ok && isName(call.Fun, name)
}

// goesOn: is it a loop that nothing but the loop's body ends?
func goesOn(n ast.Node) bool {
	loop, ok := n.(*ast.ForStmt)
	return ok && loop.Cond == nil && some(loop.Body, func(n ast.Node) bool { return isCallOf(n, "yield") })
}

// answersIterator: is it a return of a function literal that hands values to its yield in a loop without an end?
func answersIterator(n ast.Node) bool {
	answer, ok := n.(*ast.ReturnStmt)
	if !ok || len(answer.Results) != 1 {
		return false
	}
	literal, ok := answer.Results[0].(*ast.FuncLit)
	if !ok || len(literal.Type.Params.List) != 1 || !isName(literal.Type.Params.List[0].Names[0], "yield") {
		return false
	}
	// The script is a variable from around the literal: it is a closure.
	takes := some(literal.Body, func(n ast.Node) bool { return isName(n, "script") })
	return takes && some(literal.Body, goesOn)
}

// TestWays holds the package to what the document's section 'Ways' says of layer 10.
func TestWays(t *testing.T) {
	if !some(function(t, "picks"), answersIterator) {
		t.Errorf("Ways, layer 10: a script's picks are an iterator without an end, which is a closure: not so")
	}
	ranges := some(function(t, "Run"), func(n ast.Node) bool {
		loop, ok := n.(*ast.RangeStmt)
		return ok && isCallOf(loop.X, "picks")
	})
	if !ranges {
		t.Errorf("Ways, layer 10: a run ranges over the picks: not so")
	}
}

// TestCalls: layer 10 calls layers 8 and 9, and the package api, by the document's map; of mem it has the reasons' type, as its Outcome does.
func TestCalls(t *testing.T) {
	may := []string{"lychgate/api", "lychgate/link", "lychgate/mem", "lychgate/state"}
	p, err := build.ImportDir(".", 0)
	if err != nil {
		t.Fatal(err)
	}
	for _, path := range p.Imports {
		if strings.HasPrefix(path, "lychgate") && !slices.Contains(may, path) {
			t.Errorf("layer 10 calls layers 8 and 9 alone: not %s", path)
		}
	}
	for _, file := range source(t) {
		other := some(file, func(n ast.Node) bool {
			of, ok := n.(*ast.SelectorExpr)
			return ok && isName(of.X, "mem") && of.Sel.Name != "Stuck"
		})
		if other {
			t.Errorf("layer 10 has more of mem than the type of the reasons")
		}
	}
}
