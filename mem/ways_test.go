package mem

import (
	"go/ast"
	"go/parser"
	"go/token"
	"path/filepath"
	"slices"
	"strings"
	"testing"
)

// readSource: the package's own text, without its tests.
func readSource(t *testing.T) []*ast.File {
	t.Helper()
	paths, err := filepath.Glob("*.go")
	if err != nil {
		t.Fatal(err)
	}
	var out []*ast.File
	for _, path := range paths {
		if strings.HasSuffix(path, "_test.go") {
			continue
		}
		file, err := parser.ParseFile(token.NewFileSet(), path, nil, 0)
		if err != nil {
			t.Fatal(err)
		}
		out = append(out, file)
	}
	return out
}

// isName: is it this name alone?
func isName(x ast.Expr, want string) bool {
	name, ok := x.(*ast.Ident)
	return ok && name.Name == want
}

// numberedBy: the names of a group of constants of this type, whose first one is iota and whose others repeat it; none, if it isn't such a group.
func numberedBy(group *ast.GenDecl, of string) []string {
	var out []string
	for i, line := range group.Specs {
		names, ok := line.(*ast.ValueSpec)
		if !ok || len(names.Names) != 1 {
			return nil
		}
		begins := isName(names.Type, of) && len(names.Values) == 1 && isName(names.Values[0], "iota")
		repeats := names.Type == nil && len(names.Values) == 0
		if i == 0 && !begins || i > 0 && !repeats {
			return nil
		}
		out = append(out, names.Names[0].Name)
	}
	return out
}

// TestWays holds the package to what the document's section 'Ways' says of layer 6.
func TestWays(t *testing.T) {
	want := map[string][]string{
		"Kind":  {"Poison", "Int", "Ptr"},
		"Stuck": {"Fine", "Type", "Gone", "Bounds", "Empty", "Inside", "Race"},
	}
	for of, names := range want {
		found := false
		for _, file := range readSource(t) {
			for _, d := range file.Decls {
				group, ok := d.(*ast.GenDecl)
				found = found || ok && group.Tok == token.CONST && slices.Equal(numberedBy(group, of), names)
			}
		}
		if !found {
			t.Errorf("Ways, layer 6: kinds and reasons are numbered by iota: not those of type %s", of)
		}
	}
}

// TestCalls: layer 6 calls api alone, by the document's map.
func TestCalls(t *testing.T) {
	for _, file := range readSource(t) {
		for _, line := range file.Imports {
			if strings.HasPrefix(line.Path.Value, `"lychgate/`) && line.Path.Value != `"lychgate/api"` {
				t.Errorf("layer 6 calls api alone: not %s", line.Path.Value)
			}
		}
	}
}
