package syntax

import (
	"go/ast"
	goparser "go/parser"
	"go/token"
	"go/types"
	"path/filepath"
	"strings"
	"testing"
)

// source is the package's own text, with what its expressions are.
type source struct {
	files []*ast.File
	info  *types.Info
}

func readSource(t *testing.T) source {
	t.Helper()
	fset := token.NewFileSet()
	s := source{info: &types.Info{Types: map[ast.Expr]types.TypeAndValue{}, Uses: map[*ast.Ident]types.Object{}, Selections: map[*ast.SelectorExpr]*types.Selection{}}}
	names, err := filepath.Glob("*.go")
	if err != nil {
		t.Fatal(err)
	}
	for _, name := range names {
		if strings.HasSuffix(name, "_test.go") {
			continue
		}
		file, err := goparser.ParseFile(fset, name, nil, 0)
		if err != nil {
			t.Fatal(err)
		}
		s.files = append(s.files, file)
	}
	// Imports aren't followed: what is asked of is the package's own, and is known without them.
	config := types.Config{Error: func(error) {}}
	config.Check("lychgate/syntax", fset, s.files, s.info)
	return s
}

// count: of how many nodes it holds.
func (s source) count(root ast.Node, holds func(ast.Node) bool) int {
	n := 0
	ast.Inspect(root, func(node ast.Node) bool {
		if node != nil && holds(node) {
			n++
		}
		return true
	})
	return n
}

func (s source) countAll(holds func(ast.Node) bool) int {
	n := 0
	for _, file := range s.files {
		n += s.count(file, holds)
	}
	return n
}

func (s source) isCallOf(node ast.Node, builtin string) bool {
	call, ok := node.(*ast.CallExpr)
	if !ok {
		return false
	}
	name, ok := call.Fun.(*ast.Ident)
	if !ok {
		return false
	}
	found, ok := s.info.Uses[name].(*types.Builtin)
	return ok && found.Name() == builtin
}

// listsByMethodValue: is it a call of a method of the parser that is given a method value of the parser, to read a list's items by?
func (s source) listsByMethodValue(node ast.Node) bool {
	call, ok := node.(*ast.CallExpr)
	if !ok || len(call.Args) != 1 {
		return false
	}
	for _, x := range []ast.Expr{call.Fun, call.Args[0]} {
		selector, ok := x.(*ast.SelectorExpr)
		if !ok {
			return false
		}
		selection := s.info.Selections[selector]
		if selection == nil || selection.Kind() != types.MethodVal || !strings.HasSuffix(selection.Recv().String(), "syntax.parser") {
			return false
		}
	}
	return true
}

// isSumsRange: is it a range over a map with the signs, texts, as keys?
func (s source) isSumsRange(node ast.Node) bool {
	loop, ok := node.(*ast.RangeStmt)
	if !ok {
		return false
	}
	over := s.info.Types[loop.X].Type
	if over == nil {
		return false
	}
	m, ok := over.Underlying().(*types.Map)
	return ok && m.Key().String() == "string"
}

// recoversByAssertion: is it a deferred function literal that recovers and tells what came by a type assertion?
func (s source) recoversByAssertion(node ast.Node) bool {
	deferred, ok := node.(*ast.DeferStmt)
	if !ok {
		return false
	}
	literal, ok := deferred.Call.Fun.(*ast.FuncLit)
	if !ok {
		return false
	}
	recovers := s.count(literal, func(n ast.Node) bool { return s.isCallOf(n, "recover") })
	asserts := s.count(literal, func(n ast.Node) bool {
		x, ok := n.(*ast.TypeAssertExpr)
		return ok && x.Type != nil
	})
	return recovers == 1 && asserts == 1
}

// TestWays holds the package to what the document's section 'Ways' says of layer 2.
func TestWays(t *testing.T) {
	s := readSource(t)
	isIota := func(n ast.Node) bool {
		name, ok := n.(*ast.Ident)
		return ok && name.Name == "iota"
	}
	for _, way := range []struct {
		what  string
		least int
		holds func(ast.Node) bool
	}{
		{"kinds are numbered by iota", 1, isIota},
		{"the lists of fields, facts, params and terms are read by method values of the parser", 4, s.listsByMethodValue},
		{"the signs of a sum are gone through by a range over a map", 1, s.isSumsRange},
		{"a fault leaves by panic", 1, func(n ast.Node) bool { return s.isCallOf(n, "panic") }},
		{"it is recovered in a deferred function literal and told apart by a type assertion", 1, s.recoversByAssertion},
	} {
		if got := s.countAll(way.holds); got < way.least {
			t.Errorf("Ways, layer 2: %s: found %d times, want %d", way.what, got, way.least)
		}
	}
}

// TestOtherPanicsAreNotFaults: what isn't a fault of the text isn't told as one.
func TestOtherPanicsAreNotFaults(t *testing.T) {
	defer func() {
		if recover() == nil {
			t.Errorf("a list of tokens without an End was read")
		}
	}()
	read(nil)
}
