package show

import (
	"go/ast"
	"go/parser"
	"go/token"
	"path/filepath"
	"strings"
	"testing"
)

func readSource(t *testing.T) []*ast.File {
	t.Helper()
	paths, err := filepath.Glob("*.go")
	if err != nil {
		t.Fatal(err)
	}
	var files []*ast.File
	for _, path := range paths {
		if strings.HasSuffix(path, "_test.go") {
			continue
		}
		file, err := parser.ParseFile(token.NewFileSet(), path, nil, 0)
		if err != nil {
			t.Fatal(err)
		}
		files = append(files, file)
	}
	return files
}

// count: of how many nodes it holds.
func count(roots []ast.Node, holds func(ast.Node) bool) int {
	n := 0
	for _, root := range roots {
		ast.Inspect(root, func(node ast.Node) bool {
			if node != nil && holds(node) {
				n++
			}
			return true
		})
	}
	return n
}

// isKindOfSyntax: is it a name of layer 2's, like syntax.Term?
func isKindOfSyntax(x ast.Expr) bool {
	selector, ok := x.(*ast.SelectorExpr)
	if !ok {
		return false
	}
	of, ok := selector.X.(*ast.Ident)
	return ok && of.Name == "syntax"
}

// takesKinds: the name of a function that takes any number of kinds.
func takesKinds(n ast.Node) (string, bool) {
	fn, ok := n.(*ast.FuncDecl)
	if !ok {
		return "", false
	}
	for _, param := range fn.Type.Params.List {
		if many, ok := param.Type.(*ast.Ellipsis); ok && isKindOfSyntax(many.Elt) {
			return fn.Name.Name, true
		}
	}
	return "", false
}

// showsKid: is it a function literal with a call that is given one of a node's kids?
func showsKid(n ast.Node) bool {
	literal, ok := n.(*ast.FuncLit)
	return ok && count([]ast.Node{literal.Body}, func(n ast.Node) bool {
		call, ok := n.(*ast.CallExpr)
		if !ok || len(call.Args) != 1 {
			return false
		}
		index, ok := call.Args[0].(*ast.IndexExpr)
		if !ok {
			return false
		}
		kids, ok := index.X.(*ast.SelectorExpr)
		return ok && kids.Sel.Name == "Kids"
	}) > 0
}

// TestWays holds the package to what the document's section 'Ways' says of layer 3.
func TestWays(t *testing.T) {
	var roots []ast.Node
	for _, file := range readSource(t) {
		roots = append(roots, file)
	}
	variadic := map[string]bool{}
	count(roots, func(n ast.Node) bool {
		name, ok := takesKinds(n)
		variadic[name] = ok
		return ok
	})
	calls := count(roots, func(n ast.Node) bool {
		call, ok := n.(*ast.CallExpr)
		if !ok || len(call.Args) == 0 || !isKindOfSyntax(call.Args[0]) {
			return false
		}
		called, ok := call.Fun.(*ast.Ident)
		return ok && variadic[called.Name]
	})
	if calls < 12 {
		t.Errorf("Ways, layer 3: kinds of kids come in through a variadic function: found %d times", calls)
	}
	if n := count(roots, showsKid); n == 0 {
		t.Errorf("Ways, layer 3: kids are shown by a closure: not found")
	}
	direct := count(roots, func(n ast.Node) bool {
		call, ok := n.(*ast.CallExpr)
		if !ok {
			return false
		}
		method, ok := call.Fun.(*ast.SelectorExpr)
		return ok && method.Sel.Name == "show"
	})
	if direct != 2 {
		t.Errorf("Ways, layer 3: show is called %d times, want once for the tree and once by the closure", direct)
	}
}
