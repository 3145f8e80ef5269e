package heap

import (
	"go/ast"
	"go/build"
	"go/parser"
	"go/token"
	"slices"
	"strings"
	"testing"
)

// source: the package's own text, without its tests.
func source(t *testing.T) []*ast.File {
	t.Helper()
	p, err := build.ImportDir(".", 0)
	if err != nil {
		t.Fatal(err)
	}
	var files []*ast.File
	for _, name := range p.GoFiles {
		file, err := parser.ParseFile(token.NewFileSet(), name, nil, 0)
		if err != nil {
			t.Fatal(err)
		}
		files = append(files, file)
	}
	return files
}

// some: is there a node below root of which it holds?
func some(root ast.Node, holds func(ast.Node) bool) bool {
	found := false
	ast.Inspect(root, func(n ast.Node) bool {
		found = found || n != nil && holds(n)
		return !found
	})
	return found
}

func isName(n ast.Node, want string) bool {
	name, ok := n.(*ast.Ident)
	return ok && name.Name == want
}

// numbers: is it the group of these constants, whose first one is iota, of this type, and whose others repeat it?
func numbers(n ast.Node, of string, want ...string) bool {
	group, ok := n.(*ast.GenDecl)
	if !ok || group.Tok != token.CONST {
		return false
	}
	var names []string
	for i, line := range group.Specs {
		spec := line.(*ast.ValueSpec)
		begins := len(spec.Values) == 1 && isName(spec.Values[0], "iota") && isName(spec.Type, of)
		repeats := len(spec.Values) == 0 && spec.Type == nil
		if i == 0 && !begins || i > 0 && !repeats {
			return false
		}
		names = append(names, spec.Names[0].Name)
	}
	return slices.Equal(names, want)
}

// cellByClosure: is it Over, with a function literal in it that tells a value by the cells from around it, of which each fact asks twice?
func cellByClosure(n ast.Node) bool {
	over, ok := n.(*ast.FuncDecl)
	if !ok || over.Name.Name != "Over" {
		return false
	}
	var name string
	ast.Inspect(over.Body, func(n ast.Node) bool {
		set, ok := n.(*ast.AssignStmt)
		if !ok || len(set.Rhs) != 1 {
			return true
		}
		literal, ok := set.Rhs[0].(*ast.FuncLit)
		if ok && len(literal.Type.Results.List) == 1 && isName(literal.Type.Results.List[0].Type, "Sym") && some(literal.Body, func(n ast.Node) bool { return isName(n, "cells") }) {
			name = set.Lhs[0].(*ast.Ident).Name
		}
		return true
	})
	asked := 0
	ast.Inspect(over.Body, func(n ast.Node) bool {
		if c, ok := n.(*ast.CallExpr); ok && name != "" && isName(c.Fun, name) {
			asked++
		}
		return true
	})
	return asked == 2
}

// TestWays holds the package to what the document's section 'Ways' says of layer 13.
func TestWays(t *testing.T) {
	for _, way := range []struct {
		what  string
		holds func(ast.Node) bool
	}{
		{"kinds are numbered by iota", func(n ast.Node) bool { return numbers(n, "Kind", "None", "Int", "Ptr") }},
		{"origins are numbered by iota", func(n ast.Node) bool {
			return numbers(n, "Origin", "Fresh", "Taken", "Lent", "Read", "Shared", "Count", "Locked", "Inner", "ReadInner")
		}},
		{"a cell of facts is a closure", cellByClosure},
	} {
		if !slices.ContainsFunc(source(t), func(file *ast.File) bool { return some(file, way.holds) }) {
			t.Errorf("Ways, layer 13: %s: not found", way.what)
		}
	}
}

// TestCalls: layer 13 calls layer 4, and the package api, by the document's map.
func TestCalls(t *testing.T) {
	may := []string{"lychgate/api", "lychgate/diff"}
	p, err := build.ImportDir(".", 0)
	if err != nil {
		t.Fatal(err)
	}
	for _, path := range p.Imports {
		if strings.HasPrefix(path, "lychgate") && !slices.Contains(may, path) {
			t.Errorf("layer 13 calls layer 4 alone: not %s", path)
		}
	}
}
