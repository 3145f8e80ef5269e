package shape

import (
	"go/ast"
	"go/build"
	"go/parser"
	"go/token"
	"slices"
	"strings"
	"testing"

	"lychgate/api"
)

// source: the package's own text, without its tests.
func source(t *testing.T) []*ast.File {
	t.Helper()
	p, err := build.ImportDir(".", 0)
	if err != nil {
		t.Fatal(err)
	}
	var files []*ast.File
	for _, name := range p.GoFiles {
		file, err := parser.ParseFile(token.NewFileSet(), name, nil, 0)
		if err != nil {
			t.Fatal(err)
		}
		files = append(files, file)
	}
	return files
}

// count: of how many nodes below a node it holds.
func count(root ast.Node, holds func(ast.Node) bool) int {
	n := 0
	ast.Inspect(root, func(node ast.Node) bool {
		if node != nil && holds(node) {
			n++
		}
		return true
	})
	return n
}

func isName(node ast.Node, want string) bool {
	name, ok := node.(*ast.Ident)
	return ok && name.Name == want
}

// isCallOf: is it a call of that name alone, with so many arguments?
func isCallOf(node ast.Node, name string, args int) bool {
	call, ok := node.(*ast.CallExpr)
	return ok && isName(call.Fun, name) && len(call.Args) == args
}

// numbersSorts: is it the group of the sorts, whose first one is iota and whose others repeat it?
func numbersSorts(node ast.Node) bool {
	group, ok := node.(*ast.GenDecl)
	if !ok || group.Tok != token.CONST {
		return false
	}
	var names []string
	for i, line := range group.Specs {
		spec := line.(*ast.ValueSpec)
		begins := len(spec.Values) == 1 && isName(spec.Values[0], "iota") && isName(spec.Type, "Sort")
		repeats := len(spec.Values) == 0 && spec.Type == nil
		if i == 0 && !begins || i > 0 && !repeats {
			return false
		}
		names = append(names, spec.Names[0].Name)
	}
	return slices.Equal(names, []string{"Own", "Cell", "Counted", "Lock", "Guard"})
}

// panicsWithFault: is it a panic with a fault?
func panicsWithFault(node ast.Node) bool {
	if !isCallOf(node, "panic", 1) {
		return false
	}
	literal, ok := node.(*ast.CallExpr).Args[0].(*ast.CompositeLit)
	return ok && isName(literal.Type, "fault")
}

// recoversFault: is it a deferred function literal that recovers, and tells a fault by a type assertion?
func recoversFault(node ast.Node) bool {
	deferred, ok := node.(*ast.DeferStmt)
	if !ok {
		return false
	}
	literal, ok := deferred.Call.Fun.(*ast.FuncLit)
	if !ok {
		return false
	}
	recovers := func(n ast.Node) bool { return isCallOf(n, "recover", 0) }
	asserts := func(n ast.Node) bool {
		x, ok := n.(*ast.TypeAssertExpr)
		return ok && x.Type != nil && isName(x.Type, "fault")
	}
	return count(literal, recovers) == 1 && count(literal, asserts) == 1
}

// TestWays holds the package to what the document's section 'Ways' says of layer 11.
func TestWays(t *testing.T) {
	for _, way := range []struct {
		what  string
		holds func(ast.Node) bool
	}{
		{"sorts are numbered by iota", numbersSorts},
		{"a fault leaves by panic", panicsWithFault},
		{"it is recovered in a deferred function literal", recoversFault},
	} {
		found := 0
		for _, file := range source(t) {
			found += count(file, way.holds)
		}
		if found == 0 {
			t.Errorf("Ways, layer 11: %s: not found", way.what)
		}
	}
}

// TestFaultsLeaveByPanic: each fault that a tree may have leaves by the panic, so that no error is answered but by what recovers it.
func TestFaultsLeaveByPanic(t *testing.T) {
	for text, want := range map[string]fault{
		"type a own; type a own;":                    {12, api.ErrTwice},
		"type a own { a, b, c, d, e, f, g, h, i };":  {0, api.ErrMany},
		"type a own { a, a };":                       {16, api.ErrTwice},
		"type a own { d[n] };":                       {13, api.ErrField},
		"type a counted n;":                          {7, api.ErrField},
		"type a guard b;":                            {7, api.ErrName},
		"type b lock l { l }; type a guard b { v };": {28, api.ErrField},
		"type a own where x < 1;":                    {17, api.ErrFact},
	} {
		func() {
			defer func() {
				if got := recover(); got != want {
					t.Errorf("Ways, layer 11: %q leaves with %v, want %v", text, got, want)
				}
			}()
			r := &reader{numbers: map[string]int{}}
			for _, n := range mustParse(t, text).Kids {
				r.add(n)
			}
		}()
	}
}

// TestCalls: layer 11 calls layers 2 and 4, and the package api, by the document's map.
func TestCalls(t *testing.T) {
	may := []string{"lychgate/api", "lychgate/syntax", "lychgate/diff"}
	p, err := build.ImportDir(".", 0)
	if err != nil {
		t.Fatal(err)
	}
	for _, path := range p.Imports {
		if strings.HasPrefix(path, "lychgate") && !slices.Contains(may, path) {
			t.Errorf("layer 11 calls layers 2 and 4 alone: not %s", path)
		}
	}
}
