package state

import (
	"go/ast"
	"go/build"
	"go/parser"
	"go/token"
	"slices"
	"strings"
	"testing"
)

// source: the package's own text, without its tests.
func source(t *testing.T) []*ast.File {
	t.Helper()
	p, err := build.ImportDir(".", 0)
	if err != nil {
		t.Fatal(err)
	}
	var files []*ast.File
	for _, name := range p.GoFiles {
		file, err := parser.ParseFile(token.NewFileSet(), name, nil, 0)
		if err != nil {
			t.Fatal(err)
		}
		files = append(files, file)
	}
	return files
}

// count: of how many nodes below a node it holds.
func count(root ast.Node, holds func(ast.Node) bool) int {
	n := 0
	ast.Inspect(root, func(node ast.Node) bool {
		if node != nil && holds(node) {
			n++
		}
		return true
	})
	return n
}

func isName(node ast.Node, want string) bool {
	name, ok := node.(*ast.Ident)
	return ok && name.Name == want
}

// isCallOf: is it a call of that name alone, with so many arguments?
func isCallOf(node ast.Node, name string, args int) bool {
	call, ok := node.(*ast.CallExpr)
	return ok && isName(call.Fun, name) && len(call.Args) == args
}

// numbersEnds: is it the group of the ends, whose first one is iota and whose others repeat it?
func numbersEnds(node ast.Node) bool {
	group, ok := node.(*ast.GenDecl)
	if !ok || group.Tok != token.CONST {
		return false
	}
	var names []string
	for i, line := range group.Specs {
		spec := line.(*ast.ValueSpec)
		begins := len(spec.Values) == 1 && isName(spec.Values[0], "iota") && isName(spec.Type, "End")
		repeats := len(spec.Values) == 0 && spec.Type == nil
		if i == 0 && !begins || i > 0 && !repeats {
			return false
		}
		names = append(names, spec.Names[0].Name)
	}
	return slices.Equal(names, []string{"Running", "Done", "Stuck", "Aborted", "Overflow", "Full"})
}

// takesArgs: is it Call, whose last parameter is variadic?
func takesArgs(node ast.Node) bool {
	f, ok := node.(*ast.FuncDecl)
	if !ok || f.Recv != nil || f.Name.Name != "Call" {
		return false
	}
	params := f.Type.Params.List
	_, ok = params[len(params)-1].Type.(*ast.Ellipsis)
	return ok
}

// panicsWithEnding: is it a panic with an ending?
func panicsWithEnding(node ast.Node) bool {
	if !isCallOf(node, "panic", 1) {
		return false
	}
	literal, ok := node.(*ast.CallExpr).Args[0].(*ast.CompositeLit)
	return ok && isName(literal.Type, "ending")
}

func assertsEnding(node ast.Node) bool {
	x, ok := node.(*ast.TypeAssertExpr)
	return ok && x.Type != nil && isName(x.Type, "ending")
}

// recoversEnding: is it a deferred function literal that recovers, and tells an ending by a type assertion?
func recoversEnding(node ast.Node) bool {
	deferred, ok := node.(*ast.DeferStmt)
	if !ok {
		return false
	}
	literal, ok := deferred.Call.Fun.(*ast.FuncLit)
	if !ok {
		return false
	}
	recovers := func(n ast.Node) bool { return isCallOf(n, "recover", 0) }
	return count(literal, recovers) == 1 && count(literal, assertsEnding) == 1
}

// TestWays holds the package to what the document's section 'Ways' says of layer 9.
func TestWays(t *testing.T) {
	for _, way := range []struct {
		what  string
		holds func(ast.Node) bool
	}{
		{"ends are numbered by iota", numbersEnds},
		{"arguments come in through a variadic function", takesArgs},
		{"an end leaves a step by panic", panicsWithEnding},
		{"it is recovered in a deferred function literal and told apart by a type assertion", recoversEnding},
	} {
		found := 0
		for _, file := range source(t) {
			found += count(file, way.holds)
		}
		if found == 0 {
			t.Errorf("Ways, layer 9: %s: not found", way.what)
		}
	}
}

// TestCalls: layer 9 calls layers 6 to 8, and the package api, by the document's map.
func TestCalls(t *testing.T) {
	may := []string{"lychgate/api", "lychgate/mem", "lychgate/code", "lychgate/link"}
	p, err := build.ImportDir(".", 0)
	if err != nil {
		t.Fatal(err)
	}
	for _, path := range p.Imports {
		if strings.HasPrefix(path, "lychgate") && !slices.Contains(may, path) {
			t.Errorf("layer 9 calls layers 6 to 8 alone: not %s", path)
		}
	}
}
