package code

import (
	"go/ast"
	"go/build"
	"go/parser"
	"go/token"
	"slices"
	"testing"
)

// source: the package's own files, without its tests.
func source(t *testing.T) *build.Package {
	t.Helper()
	p, err := build.ImportDir(".", 0)
	if err != nil {
		t.Fatal(err)
	}
	return p
}

// numbered: the names of a group of constants of the type Op that is numbered by iota: the first line alone has a type and a value, which the others repeat.
func numbered(group *ast.GenDecl) []string {
	var names []string
	for _, line := range group.Specs {
		spec, ok := line.(*ast.ValueSpec)
		if !ok || len(spec.Names) != 1 {
			return nil
		}
		of, typed := spec.Type.(*ast.Ident)
		first := typed && of.Name == "Op" && len(spec.Values) == 1
		if first {
			value, ok := spec.Values[0].(*ast.Ident)
			first = ok && value.Name == "iota"
		}
		if repeats := spec.Type == nil && len(spec.Values) == 0; first != (len(names) == 0) || !first && !repeats {
			return nil
		}
		names = append(names, spec.Names[0].Name)
	}
	return names
}

// TestWays holds the package to what the document's section 'Ways' says of layer 7, and the ops to the chapter's order.
func TestWays(t *testing.T) {
	want := []string{"Set", "Sum", "Less", "New", "Array", "Load", "Store", "Free", "Lock", "Unlock", "Branch", "Jump", "Call", "Fork", "Ret", "Abort"}
	found := false
	for _, name := range source(t).GoFiles {
		file, err := parser.ParseFile(token.NewFileSet(), name, nil, 0)
		if err != nil {
			t.Fatal(err)
		}
		for _, d := range file.Decls {
			group, ok := d.(*ast.GenDecl)
			found = found || ok && slices.Equal(numbered(group), want)
		}
	}
	if !found {
		t.Errorf("Ways, layer 7: ops are numbered by iota: no group of constants is, from Set on to Abort")
	}
	if Set != 0 || Abort != 15 {
		t.Errorf("the ops are numbered from %d to %d", Set, Abort)
	}
}

// TestCalls: layer 7 calls layer 2 alone, by the document's map.
func TestCalls(t *testing.T) {
	if calls := source(t).Imports; !slices.Equal(calls, []string{"lychgate/syntax"}) {
		t.Errorf("layer 7 calls layer 2 alone: not %v", calls)
	}
}
