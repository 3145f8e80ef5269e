package enter

import (
	"go/ast"
	"go/build"
	"go/parser"
	"go/token"
	"slices"
	"strings"
	"testing"

	"lychgate/api"
	"lychgate/heap"
	"lychgate/sign"
)

// source: the package's own text, without its tests.
func source(t *testing.T) []*ast.File {
	t.Helper()
	p, err := build.ImportDir(".", 0)
	if err != nil {
		t.Fatal(err)
	}
	var files []*ast.File
	for _, name := range p.GoFiles {
		file, err := parser.ParseFile(token.NewFileSet(), name, nil, 0)
		if err != nil {
			t.Fatal(err)
		}
		files = append(files, file)
	}
	return files
}

// count: of how many nodes below a node it holds.
func count(root ast.Node, holds func(ast.Node) bool) int {
	n := 0
	ast.Inspect(root, func(node ast.Node) bool {
		if node != nil && holds(node) {
			n++
		}
		return true
	})
	return n
}

func isName(node ast.Node, want string) bool {
	name, ok := node.(*ast.Ident)
	return ok && name.Name == want
}

// isCallOf: is it a call of that name alone, with so many arguments?
func isCallOf(node ast.Node, name string, args int) bool {
	call, ok := node.(*ast.CallExpr)
	return ok && isName(call.Fun, name) && len(call.Args) == args
}

// panicsForRoom: is it a panic with a noRoom?
func panicsForRoom(node ast.Node) bool {
	if !isCallOf(node, "panic", 1) {
		return false
	}
	literal, ok := node.(*ast.CallExpr).Args[0].(*ast.CompositeLit)
	return ok && isName(literal.Type, "noRoom")
}

// recoversRoom: is it a deferred function literal that recovers, and tells a noRoom by a type assertion?
func recoversRoom(node ast.Node) bool {
	deferred, ok := node.(*ast.DeferStmt)
	if !ok {
		return false
	}
	literal, ok := deferred.Call.Fun.(*ast.FuncLit)
	if !ok {
		return false
	}
	recovers := func(n ast.Node) bool { return isCallOf(n, "recover", 0) }
	asserts := func(n ast.Node) bool {
		x, ok := n.(*ast.TypeAssertExpr)
		return ok && x.Type != nil && isName(x.Type, "noRoom")
	}
	return count(literal, recovers) == 1 && count(literal, asserts) == 1
}

// isOriginMap: is it a literal of a map with origins as its values, as many as the chapter's table has?
func isOriginMap(node ast.Node) bool {
	literal, ok := node.(*ast.CompositeLit)
	if !ok || len(literal.Elts) != 15 {
		return false
	}
	of, ok := literal.Type.(*ast.MapType)
	if !ok {
		return false
	}
	value, ok := of.Value.(*ast.SelectorExpr)
	return ok && isName(value.X, "heap") && value.Sel.Name == "Origin"
}

// TestWays holds the package to what the document's section 'Ways' says of layer 14.
func TestWays(t *testing.T) {
	for _, way := range []struct {
		what  string
		holds func(ast.Node) bool
	}{
		{"what there is no room for leaves by panic", panicsForRoom},
		{"it is recovered in a deferred function literal", recoversRoom},
		{"origins stand in a map", isOriginMap},
	} {
		found := 0
		for _, file := range source(t) {
			found += count(file, way.holds)
		}
		if found != 1 {
			t.Errorf("Ways, layer 14: %s: found %d times", way.what, found)
		}
	}
}

// TestOriginsFromMap: all origins of what is handed over come from the map.
func TestOriginsFromMap(t *testing.T) {
	table, _ := read(t, types)
	for number, of := range table {
		for _, mode := range []sign.Mode{sign.Own, sign.Ref, sign.Mut} {
			want := heap.Origin(100 + 10*number + int(mode))
			b := &beginner{types: table, origins: map[handed]heap.Origin{{of.Sort, mode}: want}, start: Start{Heap: &heap.Heap{Vars: 1}}}
			b.take(sign.Param{Mode: mode, Type: number})
			if got := b.start.Heap.Chunks[0].Origin; got != want {
				t.Errorf("Ways, layer 14: the origin of the sort %d in the mode %d is %d, not the map's", of.Sort, mode, got)
			}
		}
	}
}

// TestRoomLeavesByPanic: each of what there may be no room for leaves by the panic, so that no error is answered but by what recovers it.
func TestRoomLeavesByPanic(t *testing.T) {
	for what, text := range map[string]string{
		"an int's variable":   "type o own { x }" + factsOf(765) + "; fn f(a: &o, i: int) { }",
		"a number's variable": "type o own { x }" + factsOf(765) + "; type p cell { x }; fn f(a: &o, b: &p) { }",
		"a type's facts":      "type o own { x }" + factsOf(767) + "; fn f(a: &o) { }",
		"a guard's facts":     "type m lock l { l, x }" + factsOf(767) + "; type g guard m; fn f(a: own g) { }",
		"a count's fact":      "type o counted n { n, x }" + factsOf(764) + "; fn f(a: &o) { }",
		"an array's first":    "type o own { x, d[x] }" + factsOf(766) + "; fn f(a: &o) { }",
		"an array's second":   "type o own { x, d[x] }" + factsOf(765) + "; fn f(a: &o) { }",
	} {
		table, sigs := read(t, text)
		func() {
			defer func() {
				if got := recover(); got != (noRoom{api.ErrMany}) {
					t.Errorf("Ways, layer 14: %s leaves with %v", what, got)
				}
			}()
			b := &beginner{types: table, origins: origins(), start: Start{Heap: &heap.Heap{Vars: 1}}}
			for _, p := range sigs[0].Params {
				b.take(p)
			}
		}()
		if got, e := Begin(sigs[0], table); e != api.ErrMany || !same(got, Start{}) {
			t.Errorf("P14.1: %s: error %d, %+v", what, e, got)
		}
	}
}

// TestMust: each error leaves by the panic, and OK doesn't.
func TestMust(t *testing.T) {
	for e := range api.Errno(3) {
		func() {
			defer func() {
				if got := recover(); (got != nil) != (e != api.OK) || got != nil && got != (noRoom{e}) {
					t.Errorf("Ways, layer 14: the error %d leaves with %v", e, got)
				}
			}()
			must(e)
		}()
	}
}

// TestCalls: layer 14 calls layers 11 to 13, and the package api, by the document's map.
func TestCalls(t *testing.T) {
	may := []string{"lychgate/api", "lychgate/shape", "lychgate/sign", "lychgate/heap"}
	p, err := build.ImportDir(".", 0)
	if err != nil {
		t.Fatal(err)
	}
	for _, path := range p.Imports {
		if strings.HasPrefix(path, "lychgate") && !slices.Contains(may, path) {
			t.Errorf("layer 14 calls layers 11 to 13 alone: not %s", path)
		}
	}
}
